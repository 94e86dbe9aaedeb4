import PyProof.Rows.All
import Wide.All
import OpenK.AllK
import Wide.FinOn
import HandS.ForMost
import HandS.Walk
import KE.GoesEnum
import HandS.Exc
import HandS.ExcOwn
import HandS.ExcInit
import HandS.ExcField
import HandS.TryOnly
import HandS.WordsExc
import HandS.IsInst
import HandS.Wide
import HandS.TupAny
import HandS.Flow
import HandS.Evl
import HandS.Deep
import HandS.Conv
import HandS.WideBits
import HandS.NoneIn
import HandS.Zip
import HandS.Rev
import PyProof.StrBlock2
import KE.DataMinMax
import HandS.SortRule
import KE.SortData
import KE.GoesZip
import KE.GoesMore
import KE.KRevSl
import HandS.Flt
import KE.KDictZip
import HandS.ExcIs
import KE.KExcIs
import PyProof.SeqIndex
import HandS.Small
import HandS.ListItems
import HandS.SetFor
import HandS.Iter
import HandS.Star
import HandS.TupLe
import PySem.Challenge.RW_deedstand_k23_whole_settled_exactly
set_option Elab.async false
set_option linter.all false
set_option maxRecDepth 100000
set_option maxHeartbeats 4000000
/-! enumerate over a tuple and over a text, one argument -/
namespace Dk
open PySem PySem.Spec PyProof.Rows L2
/-- the object that enumerate(v) makes -/
abbrev enObj (it : Addr) : Obj := { cls := .type "enumerate", data := .fields #[.none, .bool false, .ref it, rawInt 0, .none, .none] }
theorem enum_new1 {v : Value} {o : Obj} {G : Heap → Prop} (B : Begins v o G) :
    Meets (Builtin.«enumerate.__new__» ⟨[.type "enumerate", v], []⟩) fun _ R s =>
      G s.heap ∧ R (.ok (.ret (.ref (s.heap.push o).objs.size))) { s with heap := (s.heap.push o).push (enObj s.heap.objs.size) } := by
  refine .of_wp fun prog w A R s hh => ?_
  rcases s with ⟨hp, gs, dr, tk, os⟩
  obtain ⟨hG, hR⟩ := hh
  have hs := sub_enumerate
  have go : ∀ {A' : Around} {E : Value → Shared → Prop} {Q : Value → Shared → Prop},
      Q (.ref hp.objs.size) ⟨hp.push o, gs, dr, tk, os⟩ → wpAny (model prog w) A' (pyIter v) Q E ⟨hp, gs, dr, tk, os⟩ :=
    fun q => B.iter prog w _ _ ⟨hp, gs, dr, tk, os⟩ _ hG q
  wp_walk using go
  refine wpAny_stack_any fun st => ?_
  refine wpAny_pure ?_
  split
  · rename_i c _ _ _ _ _
    cases (c == Value.type "enumerate") <;> (wp_walk using go; exact ⟨_, rfl, hR⟩)
  · wp_walk using go
    exact ⟨_, rfl, hR⟩
section
variable {prog : Program} {w : World} {A : Around} {E : Value → Shared → Prop} {s : Shared}
theorem enum_call1 {v : Value} {o : Obj} {G : Heap → Prop} {Q : Value → Shared → Prop} (B : Begins v o G) (hG : G s.heap)
    (q : ∀ h', IsEnum h' (s.heap.objs.size + 1) s.heap.objs.size 0 .none → h'.get? s.heap.objs.size = some o →
      (∀ b u, s.heap.get? b = some u → h'.get? b = some u) → Q (.ref (s.heap.objs.size + 1)) { s with heap := h' }) :
    wpAny (model prog w) A (call (.type "enumerate") [v]) Q E s := by
  have sz : (s.heap.push o).objs.size = s.heap.objs.size + 1 := Heap.size_push ..
  have he : IsEnum ((s.heap.push o).push (enObj s.heap.objs.size)) (s.heap.objs.size + 1) s.heap.objs.size 0 .none := by
    have z := Heap.get?_push_size (s.heap.push o) (o := enObj s.heap.objs.size) rfl
    rw [sz] at z
    exact z
  refine callType_new F.called_enumerate (by decide) (F.typeCall_enumerate_1 _) (F.newCall_enumerate_1 _)
    (fun obj => F.args_object_init_2 obj _) F.entry_enumerate_new (enum_new1 B) ⟨hG, ?_⟩
  show _ ∧ _
  rw [sz]
  exact ⟨⟨_, he, rfl⟩, q _ he (Heap.get?_push_of_some _ (Heap.get?_push_size _ B.free))
    fun b u z => Heap.get?_push_of_some _ (Heap.get?_push_of_some _ z)⟩
end
/-- a new pair of the turn's number and f i -/
def ItE (G : Hp → Prop) (n : Nat) (Y : Nat → Hp → V → Prop) : It :=
  ⟨fun i H => G H ∧ i < n, fun i H v H' => ∃ T x, v = .ref T ∧ H T = none ∧ H' = upd H T (.tup [.int (i : Nat), x]) ∧ Y i H x, fun i H => G H ∧ i = n⟩
/-- what the source's own iterator does while the heap is so -/
structure Src (P : Program) (w : World) (K : PySem.W.Frag) (it : Addr) (G : Hp → Prop) (n : Nat) (Y : Nat → Hp → V → Prop) (Tn : Nat → Heap → Prop) : Prop where
  live : ∀ i h, Tn i h → ∃ o, h.get? it = some o ∧ ∀ v, o.data ≠ .cell v
  keep : ∀ i h h', Tn i h → (∀ o, h.get? it = some o → h'.get? it = some o) → Tn i h'
  draw : ∀ (X : Cx), X.prog = P → X.w = w → X.K = K → ∀ (pins : List (Addr × Obj)) (σ : L2.St) (H : Hp) (s : Shared) (i : Nat), Inv X pins σ H s → H it = none → G H → Tn i s.heap → X.A.handled = none →
    ∃ (fp : List Addr) (Pv : Nat → Value → Prop) (St' : Nat → Heap → Prop), Draws P w X.A.in1 it fp n Pv St' ∧ St' i s.heap ∧ (∀ e, H e = none → (∃ old j, IsEnum s.heap e it j old) → e ∉ fp) ∧
      (∀ j u, Pv j u → ∃ x, RelV x u ∧ Y j H x) ∧ ∀ j h, St' j h → Tn j h
theorem turn_E {P : Program} {w : World} {K : PySem.W.Frag} {elts : List Expr} {kk : Nat} {tpos : Pos} {e it : Addr} {G : Hp → Prop} {n : Nat} {Y : Nat → Hp → V → Prop} {Tn : Nat → Heap → Prop} (S : Src P w K it G n Y Tn) :
    Turn P w K (.Tuple elts kk tpos) (ItE G n Y) [e, it] e (fun i h => (∃ old, IsEnum h e it ((i : Nat) : Int) old) ∧ Tn i h ∧ e ≠ it) where
  mem := List.mem_cons_self ..
  obj := fun i h st b hb => by
    obtain ⟨⟨old, he⟩, hs, _⟩ := st
    rcases List.mem_cons.mp hb with z | z
    · subst z
      exact ⟨_, he, fun v q => nomatch q⟩
    · have z' := List.mem_singleton.mp z
      subst z'
      exact S.live i h hs
  keep := fun i h h' st k =>
    ⟨⟨st.1.choose, k e (List.mem_cons_self ..) _ st.1.choose_spec⟩, S.keep i h h' st.2.1 fun o q => k it (List.mem_cons_of_mem _ (List.mem_singleton.mpr rfl)) o q, st.2.2⟩
  item := by
    intro X hP hw hK hc i pins s σ H E I hf st hg
    obtain ⟨⟨old, he⟩, hs, hne⟩ := st
    have fe := hf e (by simp)
    have fi := hf it (by simp)
    obtain ⟨fp, Pv, St', D, hs', hef, hy, back⟩ := S.draw X hP hw hK pins σ H s i I fi.1 hg.1 hs (I.ok.hd hc)
    subst hP hw hK
    have hel : e < s.heap.objs.size := Heap.lt_size he
    obtain ⟨oi, hoi, _⟩ := S.live i _ hs
    have hil : it < s.heap.objs.size := Heap.lt_size hoi
    refine wpAny_pyNext_enum_itemC D he hs' hg.2 hne (hef e fe.1 ⟨_, _, he⟩) fun u h' tk hu ho hst hT hsz hk => ?_
    refine ⟨_, rfl, wpAny_letOwnedTupleGo_enum (s := { s with heap := h', toks := tk + 1 }) ho fun h2 he2 sb => ?_⟩
    obtain ⟨x, rx, yx⟩ := hy i u hu
    have hT2 : h2.get? s.heap.objs.size = some { cls := .type "tuple", data := .seq #[.int i tk, u] } := (sb.2 _ (Nat.ne_of_gt hel)).trans hT
    have new : ObjOk X.prog X.w (upd H s.heap.objs.size (.tup [.int (i : Nat), x])) h2 s.heap.objs.size (.tup [.int (i : Nat), x]) :=
      ⟨by show 2 ≤ sizeLine; decide, [.int i tk, u], .cons ⟨_, rfl⟩ (.cons rx .nil), _, hT2, rfl, _, rfl⟩
    have I1 : Inv X pins σ (upd H s.heap.objs.size (.tup [.int (i : Nat), x])) { s with heap := h2, toks := tk + 1 } := by
      refine I.turnedNew (ch := [e, it]) (fun b o hb q => ?_) hf (Nat.le_refl _) new
      have n1 : b ≠ e := fun z => hb (by simp [z])
      have n2 : b ≠ it := fun z => hb (by simp [z])
      exact (sb.2 b n1).trans (hk b o n1 n2 q)
    refine ⟨.ref s.heap.objs.size, _, I1, rfl, ⟨_, x, rfl, I.hok.fresh (Nat.le_refl _), rfl, yx⟩, ⟨⟨u, ?_⟩, ?_, hne⟩, fun b hb => ?_⟩
    · have e1 : ((i + 1 : Nat) : Int) = (i : Int) + 1 := by omega
      rw [e1]
      exact he2
    · exact S.keep _ _ _ (back _ _ hst) fun o q => (sb.2 it (Ne.symm hne)).trans q
    · have hb' : b < s.heap.objs.size := by
        rcases List.mem_cons.mp hb with z | z
        · exact z ▸ hel
        · exact (List.mem_singleton.mp z) ▸ hil
      rw [upd_ne (Nat.ne_of_lt hb')]
      exact (hf b hb).1
  done := by
    intro X hP hw hK hc i pins s σ H E I hf st hg
    obtain ⟨⟨old, he⟩, hs, hne⟩ := st
    obtain ⟨f0, f1, f2, f3, f4, f5⟩ := hf it (by simp)
    obtain ⟨fp, Pv, St', D, hs', hef, hy, back⟩ := S.draw X hP hw hK pins σ H s i I f0 hg.1 hs (I.ok.hd hc)
    subst hP hw hK
    rw [hg.2] at hs'
    exact wpAny_pyNext_enum_endD D he hs' fun h' eb => ⟨rfl, I.turned (t' := s.toks) (fun b o hb q => eb b o hb q) f0 f1 f3 f4 f5⟩
  self := fun A i s Q E st h => wpAny_pyIter_enum st.1.choose_spec h
theorem src_tup {P : Program} {w : World} {K : PySem.W.Frag} {a it : Addr} {xs : List V} :
    Src P w K it (fun H => SqT K H a xs) xs.length (fun i _ x => xs[i]? = some x) (fun i h => h.IsTupleIter it a i) where
  live := fun i h st => by
    obtain ⟨o, e, c, d⟩ := st
    exact ⟨o, e, fun v z => by rw [d] at z; cases z⟩
  keep := fun i h h' st k => st.at fun o e => k o e
  draw := by
    intro X hP hw hK pins σ H s i I hn hG st hh
    subst hP hw hK
    obtain ⟨its, rv, p, hz⟩ := I.tuple hG
    have pt : s.heap.IsTuple a its.toArray := p
    have hne : a ≠ it := by
      rintro rfl
      obtain ⟨o, e, c, _⟩ := pt
      obtain ⟨o', e', c', _⟩ := id st
      rw [e] at e'
      cases e'
      rw [c] at c'
      injection c' with q
      exact absurd q (by decide)
    have hl := rv.length
    refine ⟨[it, a], fun i v => its.toArray[i]? = some v, fun i h => h.IsTupleIter it a i ∧ h.IsTuple a its.toArray, ?_, ⟨st, pt⟩, fun e he hq => ?_, fun j u hu => ?_, fun j h z => z.1⟩
    · have D := Draws.tuple (prog := X.prog) (w := X.w) (A := X.A.in1) hh it a hne its.toArray
      rw [show its.toArray.size = xs.length by simp; omega] at D
      exact D
    · obtain ⟨old, j, hq⟩ := hq
      intro hm
      rcases List.mem_cons.mp hm with z | z
      · subst z
        obtain ⟨o, e', c, _⟩ := id st
        have hq' : s.heap.get? e = _ := hq
        rw [e'] at hq'
        cases hq'
        injection c with q
        exact absurd q (by decide)
      · have z' := List.mem_singleton.mp z
        subst z'
        obtain ⟨o, e', c, _⟩ := pt
        have hq' : s.heap.get? e = _ := hq
        rw [e'] at hq'
        cases hq'
        injection c with q
        exact absurd q (by decide)
    · have hu' : its[j]? = some u := by simpa using hu
      have hj : j < its.length := (List.getElem?_eq_some_iff.mp hu').1
      have hx : xs[j]? = some (xs[j]'(by omega)) := List.getElem?_eq_getElem (by omega)
      obtain ⟨u', h1, h2⟩ := rv.get hx
      rw [hu'] at h1
      cases h1
      exact ⟨_, h2, hx⟩
theorem src_str {P : Program} {w : World} {K : PySem.W.Frag} {it : Addr} {z : Str} {t : Tok} :
    Src P w K it (fun _ => True) z.cps.size (fun i _ x => ∃ c, z.cps[i]? = some c ∧ x = .str ⟨#[c]⟩) (fun i h => h.IsStrIter it (strIterType z) z t i) where
  live := fun i h st => by
    obtain ⟨o, e, c, d⟩ := st
    exact ⟨o, e, fun v z => by rw [d] at z; cases z⟩
  keep := fun i h h' st k => by
    obtain ⟨o, e, r⟩ := st
    exact ⟨o, k o e, r⟩
  draw := by
    intro X hP hw hK pins σ H s i I hn hG st hh
    subst hP hw hK
    refine ⟨[it], _, _, Draws.text (prog := X.prog) (w := X.w) (A := X.A.in1) hh it z t, st, fun e he hq hm => ?_, fun j u hu => ?_, fun j h z => z⟩
    · obtain ⟨old, j, hq⟩ := hq
      have z' := List.mem_singleton.mp hm
      subst z'
      obtain ⟨o, e', c, _⟩ := id st
      have hq' : s.heap.get? e = _ := hq
      rw [e'] at hq'
      cases hq'
      have c' : strIterType z = "enumerate" := by injection c with q; exact q.symm
      unfold strIterType at c'
      split at c' <;> exact absurd c' (by decide)
    · obtain ⟨c, u', h1, h2⟩ := hu
      exact ⟨.str ⟨#[c]⟩, ⟨u', h2⟩, c, h1, rfl⟩
def iEnumT (K : PySem.W.Frag) (ta : TA) : TI := fun σ H R => ta σ H fun vs H1 => ∃ a xs, vs = [.ref a] ∧ SqT K H1 a xs ∧ R (ItE (fun H => SqT K H a xs) xs.length fun i _ x => xs[i]? = some x) H1
def iEnumS (ta : TA) : TI := fun σ H R => ta σ H fun vs H1 => ∃ z, vs = [.str z] ∧ R (ItE (fun _ => True) z.cps.size fun i _ x => ∃ c, z.cps[i]? = some c ∧ x = .str ⟨#[c]⟩) H1
section
variable {X : Cx} {e : Expr} {ta : TA} {p pos tpos : Pos} {elts : List Expr} {kk : Nat}
theorem pi_enumT (hg : Gl X "enumerate") (hm : X.mg "enumerate" = none) (ha : PA X [e] ta) (hs : starEach [e] X.env = [(false, eval e X.env)] := by rfl) :
    PI X (.Tuple elts kk tpos) (.Call (.Name "enumerate" p) [e] [] pos) (iEnumT X.K ta) := by
  refine ⟨fun pins s σ H R I h => Call_ (ld_blt I hg hm boot_enumerate (PyProof.Rows.callWith_type1 (thn (ha.run pos pins s σ H _ I h) fun us s1 hh => ?_) hs rfl))⟩
  obtain ⟨vs, H1, I1, r1, a, xs, rfl, hq, q⟩ := hh
  obtain ⟨u, rfl, rx⟩ := vals1 r1
  cases rx
  obtain ⟨its, rv, pt, hz⟩ := I1.tuple hq
  refine enum_call1 (begins_tuple a its.toArray) pt fun h' he hit hk => wpAny_pyIter_enum he ?_
  have I2 : Inv X pins σ H1 { s1 with heap := h' } := I1.kept (t' := s1.toks) hk
  refine ⟨s1.heap.objs.size + 1, [s1.heap.objs.size + 1, s1.heap.objs.size], _, _, H1, rfl, I2, turn_E src_tup, ⟨⟨.none, he⟩, ⟨_, hit, rfl, rfl⟩, Nat.succ_ne_self _⟩, fun b hb => ?_, q⟩
  have hle : s1.heap.objs.size ≤ b := by
    rcases List.mem_cons.mp hb with z | z
    · exact z ▸ Nat.le_add_right _ _
    · exact (List.mem_singleton.mp z) ▸ Nat.le_refl _
  exact I1.fpOk hle (I1.hok.fresh hle)
theorem pi_enumS (hg : Gl X "enumerate") (hm : X.mg "enumerate" = none) (ha : PA X [e] ta) (hs : starEach [e] X.env = [(false, eval e X.env)] := by rfl) :
    PI X (.Tuple elts kk tpos) (.Call (.Name "enumerate" p) [e] [] pos) (iEnumS ta) := by
  refine ⟨fun pins s σ H R I h => Call_ (ld_blt I hg hm boot_enumerate (PyProof.Rows.callWith_type1 (thn (ha.run pos pins s σ H _ I h) fun us s1 hh => ?_) hs rfl))⟩
  obtain ⟨vs, H1, I1, r1, z, rfl, q⟩ := hh
  obtain ⟨u, rfl, rx⟩ := vals1 r1
  obtain ⟨t, rfl⟩ := rx
  refine enum_call1 (begins_text z t) trivial fun h' he hit hk => wpAny_pyIter_enum he ?_
  have I2 : Inv X pins σ H1 { s1 with heap := h' } := I1.kept (t' := s1.toks) hk
  refine ⟨s1.heap.objs.size + 1, [s1.heap.objs.size + 1, s1.heap.objs.size], _, _, H1, rfl, I2, turn_E src_str, ⟨⟨.none, he⟩, ⟨_, hit, rfl, rfl⟩, Nat.succ_ne_self _⟩, fun b hb => ?_, q⟩
  have hle : s1.heap.objs.size ≤ b := by
    rcases List.mem_cons.mp hb with z | z
    · exact z ▸ Nat.le_add_right _ _
    · exact (List.mem_singleton.mp z) ▸ Nat.le_refl _
  exact I1.fpOk hle (I1.hok.fresh hle)
end
end Dk

/-! the layer: what grows, steps of readings -/
namespace Dk
open PySem PySem.Spec PyProof.Rows L2

/-! ### what is known grows -/
abbrev A0 : Addr → Prop := fun _ => False
abbrev Ex := Same
/-- G: what is known for good; H: the heap; A: what may change -/
structure Gr (A : Addr → Prop) (G H G' H' : Hp) : Prop where
  gg : Ex G G'
  gh : Ex G' H'
  hh : ∀ b o, ¬ A b → H b = some o → H' b = some o
  th : ∀ b o, H b = some o → ∃ o', H' b = some o'
  nw : ∀ b o, H b = some o → G b = none → G' b = none
section
variable {A : Addr → Prop} {G H G1 H1 G2 H2 : Hp} {p q m : Addr} {o o' u : HO}
theorem Gr.refl (g : Ex G H) : Gr A G H G H := ⟨Same.refl G, g, fun _ _ _ h => h, fun _ o h => ⟨o, h⟩, fun _ _ _ h => h⟩
theorem Gr.trans (a : Gr A G H G1 H1) (b : Gr A G1 H1 G2 H2) : Gr A G H G2 H2 :=
  ⟨a.gg.trans b.gg, b.gh, fun x o n h => b.hh x o n (a.hh x o n h), fun x o h => by
    obtain ⟨o1, h1⟩ := a.th x o h
    exact b.th x o1 h1, fun x o h n => by
    obtain ⟨o1, h1⟩ := a.th x o h
    exact b.nw x o1 h1 (a.nw x o h n)⟩
theorem Gr.wide {B : Addr → Prop} (a : Gr A G H G1 H1) (h : ∀ x, A x → B x) : Gr B G H G1 H1 :=
  ⟨a.gg, a.gh, fun x o n => a.hh x o fun z => n (h x z), a.th, a.nw⟩
theorem Gr.of0 (a : Gr A0 G H G1 H1) : Gr A G H G1 H1 := a.wide fun _ z => z.elim
theorem Gr.same (a : Gr A0 G H G1 H1) : Ex H H1 := fun b o h => a.hh b o (fun z => z) h
/-- a new object, known for good -/
theorem Gr.new (g : Ex G H) (hp : H p = none) : Gr A G H (upd G p o) (upd H p o) where
  gg := fun b x e => by
    rw [upd_ne (ne_of_none e (g.free hp))]
    exact e
  gh := fun b x e => by
    by_cases hb : b = p
    · subst hb
      rw [upd_same] at e ⊢
      exact e
    · rw [upd_ne hb] at e ⊢
      exact g b x e
  hh := fun b x _ e => by
    rw [upd_ne (ne_of_none e hp)]
    exact e
  th := fun b x e => ⟨x, by
    rw [upd_ne (ne_of_none e hp)]
    exact e⟩
  nw := fun b x e n => by
    rw [upd_ne (ne_of_none e hp)]
    exact n
/-- a new object of our own -/
theorem Gr.own (g : Ex G H) (hp : H p = none) : Gr A G H G (upd H p o) where
  gg := Same.refl G
  gh := fun b x e => by
    rw [upd_ne (ne_of_none e (g.free hp))]
    exact g b x e
  hh := fun b x _ e => by
    rw [upd_ne (ne_of_none e hp)]
    exact e
  th := fun b x e => ⟨x, by
    rw [upd_ne (ne_of_none e hp)]
    exact e⟩
  nw := fun b x e n => n
/-- an object of our own is written -/
theorem Gr.mut (t : Gr A G H G1 H1) (h0 : A p ∨ H p = none) (hp : G1 p = none) : Gr A G H G1 (upd H1 p o) where
  gg := t.gg
  gh := fun b x e => by
    rw [upd_ne (ne_of_none e hp)]
    exact t.gh b x e
  hh := fun b x n e => by
    have hb : b ≠ p := fun z => by
      subst z
      rcases h0 with h0 | h0
      · exact n h0
      · rw [h0] at e
        cases e
    rw [upd_ne hb]
    exact t.hh b x n e
  th := fun b x e => by
    by_cases hb : b = p
    · exact ⟨o, by rw [hb, upd_same]⟩
    · rw [upd_ne hb]
      exact t.th b x e
  nw := t.nw
/-- an object of our own is known for good from here on -/
theorem Gr.give (t : Gr A G H G1 H1) (h0 : H p = none) (hp : H1 p = some o) (hn : G1 p = none) : Gr A G H (upd G1 p o) H1 where
  gg := fun b x e => by
    have z := t.gg b x e
    rw [upd_ne (ne_of_none z hn)]
    exact z
  gh := fun b x e => by
    by_cases hb : b = p
    · subst hb
      rw [upd_same] at e
      cases e
      exact hp
    · rw [upd_ne hb] at e
      exact t.gh b x e
  hh := t.hh
  th := t.th
  nw := fun b x e n => by
    have hb : b ≠ p := ne_of_none e h0
    rw [upd_ne hb]
    exact t.nw b x e n
theorem Gr.g0 (t : Gr A G H G1 H1) : Ex G H1 := t.gg.trans t.gh
theorem ne_g (h : G p = some o) (n : G q = none) : p ≠ q := ne_of_none h n
end

/-! ### what is read at an address -/
theorem SqL.up {K : PySem.W.Frag} {G G' : Hp} {a : Addr} {xs : List V} (e : Ex G G') (h : SqL K G a xs) : SqL K G' a xs := e.seq h
theorem SqT.up {K : PySem.W.Frag} {G G' : Hp} {a : Addr} {xs : List V} (e : Ex G G') (h : SqT K G a xs) : SqT K G' a xs := by
  rcases h with (h | ⟨o, h⟩) | h
  · exact .inl (.inl (e _ _ h))
  · exact .inl (.inr ⟨o, e _ _ h⟩)
  · exact .inr h
theorem sqL {K : PySem.W.Frag} {H : Hp} {a : Addr} {xs : List V} (h : H a = some (.lst xs)) : SqL K H a xs := .inl (.inl h)
theorem sqT {K : PySem.W.Frag} {H : Hp} {a : Addr} {xs : List V} (h : H a = some (.tup xs)) : SqT K H a xs := .inl (.inl h)

/-! ### unions of rules -/
def rStr2 : R2 := fun x y H Q => ∃ i j, x = .str i ∧ y = .str j ∧ i.length + j.length ≤ sizeLine ∧ Q (.str (i ++ j)) H
def rAddU (K : PySem.W.Frag) : R2 := fun x y H Q => rI0 (fun i j => .int (i + j)) x y H Q ∨ (rStr2 x y H Q ∨ (rCat x y H Q ∨ rCatA K x y H Q))
def rInS1 : R2 := fun x y H Q => ∃ (c : Nat) (z : Str), x = .str ⟨#[c]⟩ ∧ y = .str z ∧ Q (.bl (decide (c ∈ z.cps.toList))) H
def rNotInS1 : R2 := fun x y H Q => ∃ (c : Nat) (z : Str), x = .str ⟨#[c]⟩ ∧ y = .str z ∧ Q (.bl (!decide (c ∈ z.cps.toList))) H
def rInU (K : PySem.W.Frag) : R2 := fun x y H Q => rInS1 x y H Q ∨ rIn K false x y H Q
def rNotInU (K : PySem.W.Frag) : R2 := fun x y H Q => rNotInS1 x y H Q ∨ rIn K true x y H Q
def rEqU (K : PySem.W.Frag) : R2 := fun x y H Q => rEq x y H Q ∨ rEqD K x y H Q
def rNeU (K : PySem.W.Frag) : R2 := fun x y H Q => rNe x y H Q ∨ rNeD K x y H Q
def rSlU (K : PySem.W.Frag) : V → Option Int → Option Int → Hp → VK → Prop := fun x lo hi H Q => rSlS x lo hi H Q ∨ (rSlL K x lo hi H Q ∨ rSlA K x lo hi H Q)
def rLenU (K : PySem.W.Frag) : List V → Hp → VK → Prop := fun xs H Q => ∃ x n, xs = [x] ∧ LenV K x H n ∧ Q (.int (n : Nat)) H
def rInt1 : List V → Hp → VK → Prop := fun xs H Q => (∃ i, xs = [.int i] ∧ Q (.int i) H) ∨ ∃ k, xs = [.bl k] ∧ Q (.int (if k then 1 else 0)) H
def rMax : List V → Hp → VK → Prop := fun xs H Q => ∃ i j, xs = [.int i, .int j] ∧ Q (.int (if j > i then j else i)) H
def rMin : List V → Hp → VK → Prop := fun xs H Q => ∃ i j, xs = [.int i, .int j] ∧ Q (.int (if j < i then j else i)) H
def rListU (K : PySem.W.Frag) : List V → Hp → VK → Prop := fun xs H Q => ∃ p ys, xs = [.ref p] ∧ (SqL K H p ys ∨ SqT K H p ys) ∧ ∀ l, H l = none → Q (.ref l) (upd H l (.lst ys))
def rTupU (K : PySem.W.Frag) : List V → Hp → VK → Prop := fun xs H Q => ∃ p ys, xs = [.ref p] ∧ ((SqL K H p ys ∧ ∀ l, H l = none → Q (.ref l) (upd H l (.tup ys))) ∨ (SqT K H p ys ∧ Q (.ref p) H))
def rJoin (K : PySem.W.Frag) : V → List V → Hp → VK → Prop := fun x xs H Q => ∃ a p, ∃ ys : List Str, x = .str a ∧ xs = [.ref p] ∧ (SqL K H p (ys.map V.str) ∨ SqT K H p (ys.map V.str)) ∧
  (ys.map (·.length)).sum + ys.length * a.length ≤ 16777216 ∧ Q (.str (Txt.join a ys)) H
def rIsN1 : R2 := fun x y H Q => y = .non ∧ Q (.bl (decide (x = .non))) H
def rNotN1 : R2 := fun x y H Q => y = .non ∧ Q (.bl (!decide (x = .non))) H
def rDivW : R2 := rI CDivW fun i j => .int (i / j)
def rModP : R2 := rI (fun _ j => 0 < j) fun i j => .int (i % j)
def rMulW : R2 := rI CMulW fun i j => .int (i * j)
section
variable {X : Cx}
theorem op_addU : OpR X (binaryOp .Add) (rAddU X.K) := op_add.or (op_add_str.or (op_cat.or op_catA))
theorem op_inU : OpR X (compareOp .In) (rInU X.K) := op_in_sign.or op_in_seq
theorem op_notInU : OpR X (compareOp .NotIn) (rNotInU X.K) := op_notIn_sign.or op_notIn_seq
theorem op_eqU (hu : X.A.units + 64 < cLine) : OpR X (compareOp .Eq) (rEqU X.K) := op_eq.or (op_eqD hu)
theorem op_neU (hu : X.A.units + 64 < cLine) : OpR X (compareOp .NotEq) (rNeU X.K) := op_ne.or (op_neD hu)
theorem sl_U : SlR X (rSlU X.K) := sl_str.or (sl_list.or sl_tupA)
theorem call_lenU : CallR X (.builtin "len") (rLenU X.K) := call_len
theorem call_intU : CallR X (.type "int") rInt1 := call_int1
theorem call_maxU (hc : X.calm = true) : CallR X (.builtin "max") rMax := call_max2 hc
theorem call_minU (hc : X.calm = true) : CallR X (.builtin "min") rMin := call_min2 hc
theorem call_listU : CallR X (.type "list") (rListU X.K) := call_list_of
theorem call_tupU : CallR X (.type "tuple") (rTupU X.K) := call_tuple_of
theorem op_isU : OpR X (compareOp .Is) rIsN1 := op_isN
theorem op_isnotU : OpR X (compareOp .IsNot) rNotN1 := op_notN
theorem op_divW : OpR X (binaryOp .FloorDiv) rDivW := op_fdivW
theorem op_modP : OpR X (binaryOp .Mod) rModP := op_mod
theorem op_mulWW : OpR X (binaryOp .Mult) rMulW := op_mulW
end

/-! within a comprehension -/
section
variable {X : Cx} {K : PySem.W.Frag}
theorem k_add (h : X.K = K) : OpR X (binaryOp .Add) (rAddU K) := h ▸ op_addU
theorem k_in (h : X.K = K) : OpR X (compareOp .In) (rInU K) := h ▸ op_inU
theorem k_notIn (h : X.K = K) : OpR X (compareOp .NotIn) (rNotInU K) := h ▸ op_notInU
theorem k_ix (h : X.K = K) : IxR X (rIx K) := h ▸ ix_seq
theorem k_sl (h : X.K = K) : SlR X (rSlU K) := h ▸ sl_U
theorem k_len (h : X.K = K) : CallR X (.builtin "len") (rLenU K) := h ▸ call_lenU
theorem k_list (h : X.K = K) : CallR X (.type "list") (rListU K) := h ▸ call_listU
theorem k_tup (h : X.K = K) : CallR X (.type "tuple") (rTupU K) := h ▸ call_tupU
theorem k_isi (h : X.K = K) : CallR X (.builtin "isinstance") (rIsi K) := h ▸ call_isi
end
/-! ### steps -/
section
variable {K : PySem.W.Frag} {σ : L2.St} {H H' : Hp} {Q : VK} {v x y : V} {ta tb te : TE} {i j : Int} {D : Ends} {t u : TS} {tt tu : TT} {QB : Bool → Hp → Prop} {ar : TA} {QL : List V → Hp → Prop}
theorem r_var {n : Nat} (h : σ[n]? = some (some v)) (q : Q v H) : tVar n σ H Q := ⟨v, h, q⟩
theorem r_c (q : Q v H) : tC v σ H Q := q
theorem r_op {r : R2} (h : ta σ H fun x H1 => tb σ H1 fun y H2 => r x y H2 Q) : tOp r ta tb σ H Q := h
theorem r_un {r : V → Hp → VK → Prop} (h : ta σ H fun x H1 => r x H1 Q) : tUn r ta σ H Q := h
theorem r_I0 {g : Int → Int → V} (q : Q (g i j) H) : rI0 g (.int i) (.int j) H Q := ⟨i, j, rfl, rfl, q⟩
theorem r_I {C : Int → Int → Prop} {g : Int → Int → V} (c : C i j) (q : Q (g i j) H) : rI C g (.int i) (.int j) H Q := ⟨i, j, rfl, rfl, c, q⟩
theorem r_mulW (c : CMulW i j) (q : Q (.int (i * j)) H) : rMulW (.int i) (.int j) H Q := ⟨i, j, rfl, rfl, c, q⟩
theorem r_divW (c : CDivW i j) (q : Q (.int (i / j)) H) : rDivW (.int i) (.int j) H Q := ⟨i, j, rfl, rfl, c, q⟩
theorem r_modP (c : 0 < j) (q : Q (.int (i % j)) H) : rModP (.int i) (.int j) H Q := ⟨i, j, rfl, rfl, c, q⟩
theorem r_U {g : Int → V} (q : Q (g i) H) : rU g (.int i) H Q := ⟨i, rfl, q⟩
theorem r_addI (q : Q (.int (i + j)) H) : rAddU K (.int i) (.int j) H Q := .inl ⟨i, j, rfl, rfl, q⟩
theorem r_addS {a b : Str} (h : a.length + b.length ≤ sizeLine) (q : Q (.str (a ++ b)) H) : rAddU K (.str a) (.str b) H Q := .inr (.inl ⟨a, b, rfl, rfl, h, q⟩)
theorem r_addL {p q : Addr} {xs ys : List V} (hp : H p = some (.lst xs)) (hq : H q = some (.lst ys)) (hz : xs.length + ys.length ≤ sizeLine) (k : ∀ l, H l = none → Q (.ref l) (upd H l (.lst (xs ++ ys)))) : rAddU K (.ref p) (.ref q) H Q :=
  .inr (.inr (.inl ⟨p, q, xs, ys, rfl, rfl, hp, hq, hz, k⟩))
theorem r_sub (q : Q (.int (i - j)) H) : rI0 (fun i j => .int (i - j)) (.int i) (.int j) H Q := ⟨i, j, rfl, rfl, q⟩
theorem r_inS {c : Nat} {z : Str} (q : Q (.bl (decide (c ∈ z.cps.toList))) H) : rInU K (.str ⟨#[c]⟩) (.str z) H Q := .inl ⟨c, z, rfl, rfl, q⟩
theorem r_niS {c : Nat} {z : Str} (q : Q (.bl (!decide (c ∈ z.cps.toList))) H) : rNotInU K (.str ⟨#[c]⟩) (.str z) H Q := .inl ⟨c, z, rfl, rfl, q⟩
theorem r_eq (h : scal x y = true) (q : Q (.bl (decide (x = y))) H) : rEqU K x y H Q := .inl ⟨h, q⟩
theorem r_ne (h : scal x y = true) (q : Q (.bl (!decide (x = y))) H) : rNeU K x y H Q := .inl ⟨h, q⟩
theorem r_isN (q : Q (.bl (decide (x = .non))) H) : rIsN1 x .non H Q := ⟨rfl, q⟩
theorem r_notN (q : Q (.bl (!decide (x = .non))) H) : rNotN1 x .non H Q := ⟨rfl, q⟩
theorem r_ixL {p : Addr} {xs : List V} (h : SqL K H p xs) (a : atI xs i = some v) (q : Q v H) : rIx K (.ref p) (.int i) H Q := .inl ⟨p, xs, i, v, rfl, rfl, h, a, q⟩
theorem r_ixT {p : Addr} {xs : List V} (h : SqT K H p xs) (a : atI xs i = some v) (q : Q v H) : rIx K (.ref p) (.int i) H Q := .inr (.inl ⟨p, xs, i, v, rfl, rfl, h, a, q⟩)
theorem r_ixS {z : Str} {c : Nat} (h : z.length ≤ sizeLine) (a : atI z.cps.toList i = some c) (q : Q (.str ⟨#[c]⟩) H) : rIx K (.str z) (.int i) H Q := .inr (.inr ⟨z, i, c, rfl, rfl, h, a, q⟩)
theorem r_slS {z : Str} {lo hi : Option Int} (h : z.length ≤ sizeLine) (q : Q (.str (cutS z lo hi)) H) : rSlU K (.str z) lo hi H Q := .inl ⟨z, rfl, h, q⟩
theorem r_slL {p : Addr} {xs : List V} {lo hi : Option Int} (h : SqL K H p xs) (q : ∀ l, H l = none → Q (.ref l) (upd H l (.lst (cutV xs lo hi)))) : rSlU K (.ref p) lo hi H Q := .inr (.inl ⟨p, xs, rfl, h, q⟩)
theorem r_lenS {z : Str} (h : z.length ≤ sizeLine) (q : Q (.int (z.length : Nat)) H) : rLenU K [.str z] H Q := ⟨_, _, rfl, ⟨h, rfl⟩, q⟩
theorem r_lenL {p : Addr} {xs : List V} (h : SqL K H p xs) (q : Q (.int (xs.length : Nat)) H) : rLenU K [.ref p] H Q := ⟨_, _, rfl, .inl ⟨xs, h, rfl⟩, q⟩
theorem r_lenT {p : Addr} {xs : List V} (h : SqT K H p xs) (q : Q (.int (xs.length : Nat)) H) : rLenU K [.ref p] H Q := ⟨_, _, rfl, .inr ⟨xs, h, rfl⟩, q⟩
theorem r_int (q : Q (.int i) H) : rInt1 [.int i] H Q := .inl ⟨i, rfl, q⟩
theorem r_max (q : Q (.int (max i j)) H) : rMax [.int i, .int j] H Q := ⟨i, j, rfl, by
  have e : (if j > i then j else i) = max i j := by omega
  rw [e]
  exact q⟩
theorem r_min (q : Q (.int (min i j)) H) : rMin [.int i, .int j] H Q := ⟨i, j, rfl, by
  have e : (if j < i then j else i) = min i j := by omega
  rw [e]
  exact q⟩
theorem r_listL {p : Addr} {xs : List V} (h : SqL K H p xs) (q : ∀ l, H l = none → Q (.ref l) (upd H l (.lst xs))) : rListU K [.ref p] H Q := ⟨p, xs, rfl, .inl h, q⟩
theorem r_listT {p : Addr} {xs : List V} (h : SqT K H p xs) (q : ∀ l, H l = none → Q (.ref l) (upd H l (.lst xs))) : rListU K [.ref p] H Q := ⟨p, xs, rfl, .inr h, q⟩
theorem r_tupL {p : Addr} {xs : List V} (h : SqL K H p xs) (q : ∀ l, H l = none → Q (.ref l) (upd H l (.tup xs))) : rTupU K [.ref p] H Q := ⟨p, xs, rfl, .inl ⟨h, q⟩⟩
theorem r_tupT {p : Addr} {xs : List V} (h : SqT K H p xs) (q : Q (.ref p) H) : rTupU K [.ref p] H Q := ⟨p, xs, rfl, .inr ⟨h, q⟩⟩
theorem r_isi {n a : String} {b : Bool} (ty : TyX K H x (.type a)) (e : kitB a n = some b) (q : Q (.bl b) H) : rIsi K [x, .ty n] H Q := ⟨x, .ty n, .type a, .type n, b, rfl, .ty n, ty, kit_ty e, q⟩
theorem r_nil (q : QL [] H) : tNil σ H QL := q
theorem r_cons (h : ta σ H fun x H1 => ar σ H1 fun xs H2 => QL (x :: xs) H2) : tCons ta ar σ H QL := h
theorem r_tup (h : ar σ H fun xs H1 => xs.length ≤ sizeLine ∧ ∀ p, H1 p = none → Q (.ref p) (upd H1 p (.tup xs))) : tTup ar σ H Q := h
theorem r_lst (h : ar σ H fun xs H1 => xs.length ≤ sizeLine ∧ ∀ p, H1 p = none → Q (.ref p) (upd H1 p (.lst xs))) : tLst ar σ H Q := h
theorem r_small {xs : List V} {P : Prop} (h : xs.length ≤ 1000) (k : P) : xs.length ≤ sizeLine ∧ P := ⟨Nat.le_of_lt (small1000 h), k⟩
theorem r_CB {r : List V → Hp → VK → Prop} (h : ar σ H fun vs H1 => r vs H1 Q) : tCB r ar σ H Q := h
theorem r_call {sp : Sp} {dvs : List V} {E : XK} (h : ar σ H fun vs H1 => sp (vs ++ dvs) H1 Q E) : tCall sp dvs E ar σ H Q := h
theorem r_callS {sp : Sp} {E : L2.St → XK} (h : ar σ H fun vs H1 => sp vs H1 Q (E σ)) : tCallS sp E ar σ H Q := h
theorem r_bl {b : Bool} (q : QB b H) : ∃ k, V.bl b = .bl k ∧ QB k H := ⟨b, rfl, q⟩
theorem r_test (h : te σ H fun x H1 => ∃ k, x = .bl k ∧ QB k H1) : tTest te σ H QB := h
theorem r_B (h : te σ H fun x H1 => ∃ k, x = .bl k ∧ QB k H1) : tB te σ H QB := h
theorem r_and (h : tt σ H fun c H1 => if c = true then tu σ H1 QB else QB false H1) : tAnd tt tu σ H QB := h
theorem r_andB {b1 b2 : Bool} (h1 : ∀ QB : Bool → Hp → Prop, QB b1 H → tt σ H QB) (h2 : b1 = true → ∀ QB : Bool → Hp → Prop, QB b2 H → tu σ H QB) (k : QB (b1 && b2) H) : tAnd tt tu σ H QB := by
  refine h1 _ ?_
  cases b1 with
  | true => exact h2 rfl _ k
  | false => exact k
theorem r_orB {b1 b2 : Bool} (h1 : ∀ QB : Bool → Hp → Prop, QB b1 H → tt σ H QB) (h2 : b1 = false → ∀ QB : Bool → Hp → Prop, QB b2 H → tu σ H QB) (k : QB (b1 || b2) H) : tOr tt tu σ H QB := by
  refine h1 _ ?_
  cases b1 with
  | true => exact k
  | false => exact h2 rfl _ k
theorem r_or (h : tt σ H fun c H1 => if c = true then QB true H1 else tu σ H1 QB) : tOr tt tu σ H QB := h
theorem r_not (h : tt σ H fun c H1 => QB (!c) H1) : tNot tt σ H QB := h
theorem r_andV (h : ta σ H fun x H1 => ∃ c, x = .bl c ∧ if c = true then tb σ H1 Q else Q (.bl false) H1) : tAndV ta tb σ H Q := h
theorem r_orV (h : ta σ H fun x H1 => ∃ c, x = .bl c ∧ if c = true then Q (.bl true) H1 else tb σ H1 Q) : tOrV ta tb σ H Q := h
theorem r_notV (h : ta σ H fun x H1 => ∃ c, x = .bl c ∧ Q (.bl (!c)) H1) : tNotV ta σ H Q := h
theorem r_ifE (h : tt σ H fun c H1 => if c = true then ta σ H1 Q else tb σ H1 Q) : tIf tt ta tb σ H Q := h
theorem r_blv {b : Bool} {P : Bool → Prop} (q : P b) : ∃ c, V.bl b = .bl c ∧ P c := ⟨b, rfl, q⟩
theorem r_sl {r : V → Option Int → Option Int → Hp → VK → Prop} {tl th : TO} (h : te σ H fun x H1 => tl σ H1 fun l H2 => th σ H2 fun u H3 => r x l u H3 Q) : tSl r te tl th σ H Q := h
theorem r_seq (h : t { D with nx := u D } σ H) : tSeq t u D σ H := h
theorem r_next (q : D.nx σ H) : tNext D σ H := q
theorem r_asg {g : TG} (h : te σ H fun x H1 => g x σ H1 D.nx) : tAsg te g D σ H := h
theorem r_gname {n : Nat} {N : L2.St → Hp → Prop} (q : N (σ.set n (some v)) H) : gName n v σ H N := q
theorem r_ret (h : te σ H D.rt) : tRet te D σ H := h
theorem r_retN (h : D.rt .non H) : tRetN D σ H := h
theorem r_drop (h : te σ H fun _ H1 => D.nx σ H1) : tDrop te D σ H := h
theorem r_ifS (h : tt σ H fun b H1 => if b = true then t D σ H1 else u D σ H1) : tIfS tt t u D σ H := h
theorem r_app {p : Addr} {xs : List V} (h : H p = some (.lst xs)) (z : xs.length < sizeLine) (q : Q .non (upd H p (.lst (xs ++ [v])))) : rAppend (.ref p) [v] H Q := ⟨p, xs, v, rfl, rfl, h, z, q⟩
theorem r_bm {T : String} {r : V → List V → Hp → VK → Prop} (h : te σ H fun x H1 => tyV K T x H1 ∧ ar σ H1 fun xs H2 => r x xs H2 Q) : tBM K T r te ar σ H Q := h
theorem r_tyL {p : Addr} {xs : List V} {P : Prop} (h : SqL K H p xs) (k : P) : tyV K "list" (.ref p) H ∧ P := ⟨.inl ⟨rfl, xs, h⟩, k⟩
theorem r_setL {p : Addr} {xs : List V} {n : Nat} {N : Hp → Prop} (h : H p = some (.lst xs)) (a : ixN xs.length i = some n) (q : N (upd H p (.lst (xs.set n v)))) : rSetL (.ref p) (.int i) v H N := ⟨p, xs, i, n, rfl, rfl, h, a, q⟩
theorem r_gsub {ti : TE} {to : TE} {ts : TSet} {N : L2.St → Hp → Prop} (h : to σ H fun o H1 => ti σ H1 fun i H2 => ts o i v H2 fun H3 => N σ H3) : gSub to ti ts v σ H N := h
theorem r_ite {c A B : Prop} [Decidable c] (h1 : c → A) (h2 : ¬ c → B) : if decide c = true then A else B := by
  by_cases h : c
  · rw [if_pos (decide_eq_true h)]
    exact h1 h
  · rw [if_neg (by rw [decide_eq_false h]; decide)]
    exact h2 h
theorem r_iteN {c A B : Prop} [Decidable c] (h1 : ¬ c → A) (h2 : c → B) : if (!decide c) = true then A else B := by
  by_cases h : c
  · rw [if_neg (by rw [decide_eq_true h]; decide)]
    exact h2 h
  · rw [if_pos (by rw [decide_eq_false h]; rfl)]
    exact h1 h
theorem r_iteB {b : Bool} {A B : Prop} (h1 : b = true → A) (h2 : b = false → B) : if b = true then A else B := by
  cases b with
  | true => exact h1 rfl
  | false => exact h2 rfl
theorem r_itt {A B : Prop} (h : A) : if true = true then A else B := by
  rw [if_pos rfl]
  exact h
theorem r_iff {A B : Prop} (h : B) : if false = true then A else B := by
  rw [if_neg Bool.false_ne_true]
  exact h
theorem r_ittD {b : Bool} {A B : Prop} (e : b = true) (h : A) : if b = true then A else B := by
  rw [if_pos e]
  exact h
theorem r_iffD {b : Bool} {A B : Prop} (e : b = false) (h : B) : if b = true then A else B := by
  rw [e]
  exact r_iff h
theorem r_ittN {A B : Prop} (h : A) : if (!false) = true then A else B := r_itt h
theorem r_iffN {A B : Prop} (h : B) : if (!true) = true then A else B := r_iff h
end

/-! ### growth, further -/
section
variable {A : Addr → Prop} {G H G1 H1 G2 H2 : Hp} {p q m : Addr} {o o' u : HO} {K : PySem.W.Frag} {xs : List V} {Q : VK}
theorem Gr.ex (g : Ex G H) (e : Ex H H1) : Gr A G H G H1 := ⟨Same.refl G, g.trans e, fun b o _ h => e b o h, fun b o h => ⟨o, e b o h⟩, fun _ _ _ n => n⟩
/-- a step of one that leaves everything as it was -/
theorem Gr.then (t : Gr A G H G1 H1) (e : Ex H1 H2) : Gr A G H G1 H2 := t.trans (.ex t.gh e)
theorem Gr.none_of (t : Gr A G H G1 H1) (h : H p = some o) (n : G p = none) : G1 p = none := t.nw p o h n
/-- a new tuple, known for good -/
theorem a_tup (g : Ex G H) (hl : xs.length ≤ 1000) (k : ∀ p G' H', Gr A0 G H G' H' → G' p = some (.tup xs) → H p = none → Q (.ref p) H') :
    xs.length ≤ sizeLine ∧ ∀ p, H p = none → Q (.ref p) (upd H p (.tup xs)) :=
  ⟨Nat.le_of_lt (small1000 hl), fun p hp => k p _ _ (Gr.new g hp) upd_same hp⟩
theorem a_lst (g : Ex G H) (hl : xs.length ≤ 1000) (k : ∀ p G' H', Gr A0 G H G' H' → G' p = some (.lst xs) → H p = none → Q (.ref p) H') :
    xs.length ≤ sizeLine ∧ ∀ p, H p = none → Q (.ref p) (upd H p (.lst xs)) :=
  ⟨Nat.le_of_lt (small1000 hl), fun p hp => k p _ _ (Gr.new g hp) upd_same hp⟩
/-- a new list of our own -/
theorem a_own (g : Ex G H) (hl : xs.length ≤ 1000) (k : ∀ p H', Gr A0 G H G H' → H' p = some (.lst xs) → H p = none → G p = none → Q (.ref p) H') :
    xs.length ≤ sizeLine ∧ ∀ p, H p = none → Q (.ref p) (upd H p (.lst xs)) :=
  ⟨Nat.le_of_lt (small1000 hl), fun p hp => k p _ (Gr.own g hp) upd_same hp (g.free hp)⟩
theorem n_tup (g : Ex G H) (k : ∀ p G' H', Gr A0 G H G' H' → G' p = some (.tup xs) → H p = none → Q (.ref p) H') :
    ∀ p, H p = none → Q (.ref p) (upd H p (.tup xs)) := fun p hp => k p _ _ (Gr.new g hp) upd_same hp
theorem n_lst (g : Ex G H) (k : ∀ p G' H', Gr A0 G H G' H' → G' p = some (.lst xs) → H p = none → Q (.ref p) H') :
    ∀ p, H p = none → Q (.ref p) (upd H p (.lst xs)) := fun p hp => k p _ _ (Gr.new g hp) upd_same hp
theorem n_own (g : Ex G H) (k : ∀ p H', Gr A0 G H G H' → H' p = some (.lst xs) → H p = none → G p = none → Q (.ref p) H') :
    ∀ p, H p = none → Q (.ref p) (upd H p (.lst xs)) := fun p hp => k p _ (Gr.own g hp) upd_same hp (g.free hp)
end
/-! ### raising a class of one field -/
section
variable {K : PySem.W.Frag} {σ : L2.St} {H : Hp} {C : Addr} {f : Str} {v : V} {W : XK}
/-- the promise of its __init__ -/
def spInit1 (C : Addr) (f : Str) : Sp := fun vs H Q _ => ∃ (a : Addr) (v : V), vs = [.ref a, v] ∧ H a = some (exo a C none) ∧
  ∀ dx, H dx = none → dx ≠ a → Q .non (upd (upd H dx (exd dx [(f, v)])) a (exo a C (some dx)))
theorem r_raise1 (q : ∀ d, H d = none → W (.ref C) (some d) (upd H d (.xd [(f, v)]))) :
    ([v] : List V).length ≤ 1000 ∧ ∀ a, H a = none → spInit1 C f (.ref a :: ([v] ++ [])) (upd H a (exo a C none))
      (fun v H2 => v = .non ∧ ∃ (d : Addr) (fs : List (Str × V)), H2 a = some (exo a C (some d)) ∧ H2 d = some (exd d fs) ∧ H d = none ∧ W (.ref C) (some d) (upd (del H2 a) d (.xd fs))) (fun _ _ _ => False) := by
  refine ⟨by show 1 ≤ 1000; decide, fun a ha => ⟨a, v, rfl, upd_same, fun dx hdx hne => ⟨rfl, dx, [(f, v)], upd_same, ?_, ?_, ?_⟩⟩⟩
  · rw [upd_ne hne]
    exact upd_same
  · rw [upd_ne hne] at hdx
    exact hdx
  · rw [upd_ne hne] at hdx
    have e : upd (del (upd (upd (upd H a (exo a C none)) dx (exd dx [(f, v)])) a (exo a C (some dx))) a) dx (.xd [(f, v)]) = upd H dx (.xd [(f, v)]) := by
      funext b
      by_cases h1 : b = dx
      · rw [h1, upd_same, upd_same]
      · rw [upd_ne h1, upd_ne h1]
        by_cases h2 : b = a
        · rw [h2, del_same, ha]
        · rw [del_ne h2, upd_ne h2, upd_ne h1, upd_ne h2]
    rw [e]
    exact q dx hdx
end
theorem Same.mut {H H' : Hp} {p : Addr} {o : HO} (e : Ex H H') (h : H p = none) : Ex H (upd H' p o) := fun a u ha => by
  rw [upd_ne (ne_of_none ha h)]
  exact e a u ha
theorem Same.new {H H' : Hp} {p : Addr} {o : HO} (e : Ex H H') (h : H' p = none) : Ex H (upd H' p o) := fun a u ha => by
  rw [upd_ne (ne_of_none (e a u ha) h)]
  exact e a u ha
/-! ### texts by their codes -/
abbrev cs (z : Str) : List Nat := z.cps.toList
theorem cs_ext {a b : Str} (h : cs a = cs b) : a = b := by
  cases a
  cases b
  exact congrArg Str.mk (Array.toList_inj.mp h)
theorem cs_len (z : Str) : (cs z).length = z.length := Array.length_toList
theorem cs_app (a b : Str) : cs (a ++ b) = cs a ++ cs b := Array.toList_append
theorem cs_join : ∀ ys : List Str, cs (Txt.join "" ys) = (ys.map cs).flatten := fun ys => by
  rw [TL.join_eq]
  induction ys with
  | nil => rfl
  | cons y r ih =>
    cases r with
    | nil => simp [PySem.Str.join, cs]
    | cons x r' =>
      have e : PySem.Str.join "" (y :: x :: r') = y ++ "" ++ PySem.Str.join "" (x :: r') := rfl
      rw [e, cs_app, cs_app, ih]
      have e0 : cs ("" : Str) = [] := by decide
      rw [e0, List.append_nil]
      rfl
theorem cut_list (l : List Nat) (a b : Nat) : (l.drop (min a l.length)).take (min b l.length - min a l.length) = (l.drop a).take (b - a) := by
  by_cases h : a ≤ l.length
  · rw [Nat.min_eq_left h]
    by_cases hb : b ≤ l.length
    · rw [Nat.min_eq_left hb]
    · have hb' : l.length ≤ b := by omega
      rw [Nat.min_eq_right hb', List.take_of_length_le (by rw [List.length_drop]; omega), List.take_of_length_le (by rw [List.length_drop]; omega)]
  · have ha' : l.length ≤ a := by omega
    rw [Nat.min_eq_right ha', List.drop_of_length_le (Nat.le_refl _), List.drop_of_length_le ha', List.take_nil, List.take_nil]
theorem cs_cut (z : Str) (a b : Nat) : cs (cutS z (some (a : Int)) (some (b : Int))) = ((cs z).drop a).take (b - a) := by
  show ((z.cps.toList.drop (HT.sIx z.length 0 (some (a : Int)))).take (HT.sIx z.length z.length (some (b : Int)) - HT.sIx z.length 0 (some (a : Int)))) = _
  rw [HT.sIx_nat, HT.sIx_nat, ← cs_len z]
  exact cut_list _ a b
theorem cs_from (z : Str) (a : Nat) : cs (cutS z (some (a : Int)) none) = (cs z).drop a := by
  show ((z.cps.toList.drop (HT.sIx z.length 0 (some (a : Int)))).take (HT.sIx z.length z.length none - HT.sIx z.length 0 (some (a : Int)))) = _
  rw [HT.sIx_nat, HT.sIx_none, ← cs_len z]
  have h := cut_list (cs z) a (cs z).length
  rw [Nat.min_self] at h
  rw [h, List.take_of_length_le (by rw [List.length_drop]; omega)]
theorem cs_to (z : Str) (b : Nat) : cs (cutS z none (some (b : Int))) = (cs z).take b := by
  show ((z.cps.toList.drop (HT.sIx z.length 0 none)).take (HT.sIx z.length z.length (some (b : Int)) - HT.sIx z.length 0 none)) = _
  rw [HT.sIx_nat, HT.sIx_none, ← cs_len z]
  have h := cut_list (cs z) 0 b
  rw [Nat.zero_min] at h
  exact h
theorem cut_len (z : Str) (lo hi : Option Int) : (cutS z lo hi).length ≤ z.length := cutS_length z lo hi
theorem int_nat {i : Int} (h : 0 ≤ i) : i = ((i.toNat : Nat) : Int) := by omega
theorem at_g {α : Type} {xs : List α} {z : Int} {j : Nat} {v : α} (e : z = (j : Int)) (h : xs[j]? = some v) : atI xs z = some v := by
  rw [e]
  exact atI_nat h
theorem sum_ones {α : Type} : ∀ l : List α, (l.map fun _ => 1).sum = l.length
  | [] => rfl
  | _ :: r => by rw [List.map_cons, List.sum_cons, sum_ones r, List.length_cons, Nat.add_comm]
theorem nsz {xs : List V} (h : Nat.ble xs.length 1000 = true := by rfl) : xs.length ≤ 1000 := Nat.le_of_ble_eq_true h
/-! ### loops -/
section
variable {K : PySem.W.Frag} {σ : L2.St} {H : Hp} {tl : TE} {ta : TA} {g : TG} {tb : TS} {D : Ends}
theorem r_forT (h : tl σ H fun x H1 => ∃ (a : Addr) (xs : List V), x = .ref a ∧ SqT K H1 a xs ∧ ∃ Pv : Nat → L2.St → Hp → Prop, Pv 0 σ H1 ∧ (∀ i σ H, Pv i σ H → SqT K H a xs) ∧
    (∀ i x σ H, xs[i]? = some x → Pv i σ H → g x σ H fun σ2 H2 => tb { D with nx := Pv (i + 1), ct := Pv (i + 1), bk := D.nx } σ2 H2) ∧ ∀ σ H, Pv xs.length σ H → D.nx σ H)
    (mono : ∀ Q Q' : VK, (∀ v H, Q v H → Q' v H) → tl σ H Q → tl σ H Q') : tFor (iTup K tl) g tb D σ H := by
  refine mono _ _ (fun v H1 hh => ?_) h
  obtain ⟨a, xs, rfl, hs, Pv, p0, hl, ht, hd⟩ := hh
  exact ⟨a, rfl, ⟨xs, hs⟩, for_it walk_tup Pv p0 (fun i σ H _ p => hl i σ H p) (fun i x σ H H' hi p y => by
    obtain ⟨rfl, hx⟩ := y
    exact ht i x σ _ hx p) hd⟩
theorem r_forL (h : tl σ H fun x H1 => ∃ (a : Addr) (xs : List V), x = .ref a ∧ SqL K H1 a xs ∧ ∃ Pv : Nat → L2.St → Hp → Prop, Pv 0 σ H1 ∧ (∀ i σ H, Pv i σ H → SqL K H a xs) ∧
    (∀ i x σ H, xs[i]? = some x → Pv i σ H → g x σ H fun σ2 H2 => tb { D with nx := Pv (i + 1), ct := Pv (i + 1), bk := D.nx } σ2 H2) ∧ ∀ σ H, Pv xs.length σ H → D.nx σ H)
    (mono : ∀ Q Q' : VK, (∀ v H, Q v H → Q' v H) → tl σ H Q → tl σ H Q') : tFor (iList K tl) g tb D σ H := by
  refine mono _ _ (fun v H1 hh => ?_) h
  obtain ⟨a, xs, rfl, hs, Pv, p0, hl, ht, hd⟩ := hh
  exact ⟨a, rfl, ⟨xs, hs⟩, for_it walk_list Pv p0 (fun i σ H _ p => hl i σ H p) (fun i x σ H H' hi p y => by
    obtain ⟨rfl, hx⟩ := y
    exact ht i x σ _ hx p) hd⟩
theorem m_var {n : Nat} : ∀ Q Q' : VK, (∀ v H, Q v H → Q' v H) → tVar n σ H Q → tVar n σ H Q' := fun Q Q' h t => by
  obtain ⟨v, e, q⟩ := t
  exact ⟨v, e, h v _ q⟩
/-- over a name's list, tuple, text -/
theorem r_forTv {n : Nat} {a : Addr} {xs : List V} (e : σ[n]? = some (some (.ref a))) (hs : SqT K H a xs) (Pv : Nat → L2.St → Hp → Prop) (p0 : Pv 0 σ H) (hl : ∀ i σ H, Pv i σ H → SqT K H a xs)
    (ht : ∀ i x σ H, xs[i]? = some x → Pv i σ H → g x σ H fun σ2 H2 => tb { D with nx := Pv (i + 1), ct := Pv (i + 1), bk := D.nx } σ2 H2) (hd : ∀ σ H, Pv xs.length σ H → D.nx σ H) : tFor (iTup K (tVar n)) g tb D σ H :=
  r_forT ⟨_, e, a, xs, rfl, hs, Pv, p0, hl, ht, hd⟩ m_var
theorem r_forLv {n : Nat} {a : Addr} {xs : List V} (e : σ[n]? = some (some (.ref a))) (hs : SqL K H a xs) (Pv : Nat → L2.St → Hp → Prop) (p0 : Pv 0 σ H) (hl : ∀ i σ H, Pv i σ H → SqL K H a xs)
    (ht : ∀ i x σ H, xs[i]? = some x → Pv i σ H → g x σ H fun σ2 H2 => tb { D with nx := Pv (i + 1), ct := Pv (i + 1), bk := D.nx } σ2 H2) (hd : ∀ σ H, Pv xs.length σ H → D.nx σ H) : tFor (iList K (tVar n)) g tb D σ H :=
  r_forL ⟨_, e, a, xs, rfl, hs, Pv, p0, hl, ht, hd⟩ m_var
theorem r_forSv {n : Nat} {z : Str} (e : σ[n]? = some (some (.str z))) (Pv : Nat → L2.St → Hp → Prop) (p0 : Pv 0 σ H)
    (ht : ∀ i c σ H, (cs z)[i]? = some c → Pv i σ H → g (.str ⟨#[c]⟩) σ H fun σ2 H2 => tb { D with nx := Pv (i + 1), ct := Pv (i + 1), bk := D.nx } σ2 H2) (hd : ∀ σ H, Pv z.length σ H → D.nx σ H) : tFor (iStr (tVar n)) g tb D σ H := by
  refine ⟨_, e, z, rfl, for_it walk_str Pv p0 (fun _ _ _ _ _ => trivial) (fun i x σ H H' hi p y => ?_) hd⟩
  obtain ⟨rfl, c, hc, rfl⟩ := y
  exact ht i c σ _ (by rw [Array.getElem?_toList]; exact hc) p
theorem walk_E {G : Hp → Prop} {n : Nat} {Y : Nat → Hp → V → Prop} : Walk (ItE G n Y) n G (fun i H v H' => ∃ T x, v = .ref T ∧ H T = none ∧ H' = upd H T (.tup [.int (i : Nat), x]) ∧ Y i H x) :=
  ⟨fun i H hi g => ⟨g, hi⟩, fun H g => ⟨g, rfl⟩, fun i H x H' hi g y => y⟩
theorem r_forETv {n : Nat} {a : Addr} {xs : List V} (e : σ[n]? = some (some (.ref a))) (hs : SqT K H a xs) (Pv : Nat → L2.St → Hp → Prop) (p0 : Pv 0 σ H) (hl : ∀ i σ H, Pv i σ H → SqT K H a xs)
    (ht : ∀ i x σ H p, xs[i]? = some x → Pv i σ H → H p = none → g (.ref p) σ (upd H p (.tup [.int (i : Nat), x])) fun σ2 H2 => tb { D with nx := Pv (i + 1), ct := Pv (i + 1), bk := D.nx } σ2 H2)
    (hd : ∀ σ H, Pv xs.length σ H → D.nx σ H) : tFor (Dk.iEnumT K (tCons (tVar n) tNil)) g tb D σ H := by
  refine ⟨_, e, a, xs, rfl, hs, for_it walk_E Pv p0 (fun i σ H _ p => hl i σ H p) (fun i x σ H H' hi p y => ?_) hd⟩
  obtain ⟨T, x', rfl, hT, rfl, hx⟩ := y
  exact ht i x' σ H T hx p hT
theorem r_forESv {n : Nat} {z : Str} (e : σ[n]? = some (some (.str z))) (Pv : Nat → L2.St → Hp → Prop) (p0 : Pv 0 σ H)
    (ht : ∀ i c σ H p, (cs z)[i]? = some c → Pv i σ H → H p = none → g (.ref p) σ (upd H p (.tup [.int (i : Nat), .str ⟨#[c]⟩])) fun σ2 H2 => tb { D with nx := Pv (i + 1), ct := Pv (i + 1), bk := D.nx } σ2 H2)
    (hd : ∀ σ H, Pv z.length σ H → D.nx σ H) : tFor (Dk.iEnumS (tCons (tVar n) tNil)) g tb D σ H := by
  refine ⟨_, e, z, rfl, for_it walk_E Pv p0 (fun _ _ _ _ _ => trivial) (fun i x σ H H' hi p y => ?_) hd⟩
  obtain ⟨T, x', rfl, hT, rfl, c, hc, rfl⟩ := y
  exact ht i c σ H T (by rw [Array.getElem?_toList]; exact hc) p hT
/-- over range(n) -/
theorem r_forR1 (h : ta σ H fun vs H1 => ∃ n : Int, vs = [.int n] ∧ -1000000 ≤ n ∧ n ≤ 1000000 ∧ ∃ Pv : Nat → L2.St → Hp → Prop, Pv 0 σ H1 ∧
    (∀ (i : Nat) σ H, (i : Int) < n → Pv i σ H → g (.int (i : Nat)) σ H fun σ2 H2 => tb { D with nx := Pv (i + 1), ct := Pv (i + 1), bk := D.nx } σ2 H2) ∧ ∀ σ H, Pv n.toNat σ H → D.nx σ H)
    (mono : ∀ Q Q' : List V → Hp → Prop, (∀ v H, Q v H → Q' v H) → ta σ H Q → ta σ H Q') : tFor (iRng1 ta) g tb D σ H := by
  refine mono _ _ (fun v H1 hh => ?_) h
  obtain ⟨n, rfl, h1, h2, Pv, p0, ht, hd⟩ := hh
  refine ⟨n, rfl, by omega, by omega, for_range Pv p0 (fun i σ H hi p => ?_) hd⟩
  have z := ht i σ H (by omega) p
  rw [Int.zero_add]
  exact z
end
section
variable {K : PySem.W.Frag} {σ : L2.St} {H : Hp} {N : L2.St → Hp → Prop} {v : V} {vs : List V} {t : TG} {u : TGs}
theorem r_gtup {n : Nat} {a : Addr} (h : SqT K H a vs) (hl : vs.length = n) (k : u vs σ H N) : gTup K n u (.ref a) σ H N := ⟨a, vs, rfl, h, hl, k⟩
theorem r_gcons (k : t v σ H fun σ' H' => u vs σ' H' N) : gCons t u (v :: vs) σ H N := ⟨v, vs, rfl, k⟩
theorem r_gnil (k : N σ H) : gNil [] σ H N := ⟨rfl, k⟩
theorem r_mkO {C : Addr} {sp : Sp} {dvs : List V} {ta : TA} {Q : XK} (h : ta σ H fun vs H1 => vs.length ≤ 1000 ∧ ∀ a, H1 a = none → sp (.ref a :: (vs ++ dvs)) (upd H1 a (exo a C none))
  (fun v H2 => v = .non ∧ ∃ (d : Addr) (fs : List (Str × V)), H2 a = some (exo a C (some d)) ∧ H2 d = some (exd d fs) ∧ H1 d = none ∧ Q (.ref C) (some d) (upd (del H2 a) d (.xd fs))) (fun _ _ _ => False)) : tMkO C sp dvs ta σ H Q := h
theorem r_xfo {a C : Addr} {cls : Value} {d : Option Addr} {f : Str} {te : TE} {Q : VK} (h : te σ H fun x H1 => x = .ref a ∧ cls = .ref C ∧ ∃ (dd : Addr) (fs : List (Str × V)) (v : V), d = some dd ∧ H1 dd = some (.xd fs) ∧ fs.lookup f = some v ∧ Q v H1) : tXf a cls d C f te σ H Q := h
theorem r_noP {QO : Option Int → Hp → Prop} (q : QO none H) : tNoPart σ H QO := q
theorem r_part {te : TE} {QO : Option Int → Hp → Prop} (h : te σ H fun x H1 => ∃ i, x = .int i ∧ QO (some i) H1) : tPart te σ H QO := h
theorem r_pI {i : Int} {PO : Int → Prop} (q : PO i) : ∃ j, V.int i = .int j ∧ PO j := ⟨i, rfl, q⟩
end
/-! ### draws -/
def M61 : Int := 2305843009213693951
/-- the state of the draws stands at a -/
def Stt (H : Hp) (a : Addr) : Prop := ∃ z : Int, H a = some (.lst [.int z]) ∧ 0 ≤ z ∧ z < M61
theorem nat61 {z : Int} (h0 : 0 ≤ z) (h : z < M61) : z.natAbs < 2 ^ 61 := by
  unfold M61 at h
  have e : (2 : Nat) ^ 61 = 2305843009213693952 := by decide
  omega
/-- draws were made: the state at a turned, all else is as it was -/
structure Dr (a : Addr) (H H' : Hp) : Prop where
  hh : ∀ b o, b ≠ a → H b = some o → H' b = some o
  st : Stt H' a
section
variable {A : Addr → Prop} {a p : Addr} {G H G1 H1 H2 : Hp} {o : HO}
theorem Stt.up (s : Stt H a) (e : Ex H H1) : Stt H1 a := s.imp fun _ z => ⟨e _ _ z.1, z.2⟩
theorem Stt.ne (s : Stt H a) (h : H p = none) : p ≠ a := fun z => by
  obtain ⟨v, e, _⟩ := s
  rw [← z, h] at e
  cases e
theorem Stt.put (s : Stt H a) (h : p ≠ a) : Stt (upd H p o) a := s.imp fun _ z => ⟨by rw [upd_ne (Ne.symm h)]; exact z.1, z.2⟩
theorem Dr.refl (s : Stt H a) : Dr a H H := ⟨fun _ _ _ h => h, s⟩
theorem Dr.trans (x : Dr a H H1) (y : Dr a H1 H2) : Dr a H H2 := ⟨fun b o n h => y.hh b o n (x.hh b o n h), y.st⟩
theorem Dr.ex (s : Stt H a) (e : Ex H H1) : Dr a H H1 := ⟨fun b o _ h => e b o h, s.up e⟩
theorem Dr.then (x : Dr a H H1) (e : Ex H1 H2) : Dr a H H2 := x.trans (.ex x.st e)
theorem Dr.set {z : Int} (h0 : 0 ≤ z) (h : z < M61) : Dr a H (upd H a (.lst [.int z])) := ⟨fun b o n e => by rw [upd_ne n]; exact e, z, upd_same, h0, h⟩
theorem Dr.mut (x : Dr a H H1) (hp : H p = none) (ne : p ≠ a) : Dr a H (upd H1 p o) :=
  ⟨fun b u n e => by rw [upd_ne (ne_of_none e hp)]; exact x.hh b u n e, x.st.put ne⟩
theorem Dr.new (x : Dr a H H1) (hp : H1 p = none) : Dr a H (upd H1 p o) := x.then (Same.new (Same.refl H1) hp)
theorem Dr.gr (g : Ex G H) (n : G a = none) (s : Stt H a) (d : Dr a H H1) : Gr (· = a) G H G H1 where
  gg := Same.refl G
  gh := fun b x e => d.hh b x (ne_of_none e n) (g b x e)
  hh := fun b x z e => d.hh b x z e
  th := fun b x e => by
    by_cases h : b = a
    · obtain ⟨v, z, _⟩ := d.st
      exact ⟨_, by rw [h]; exact z⟩
    · exact ⟨x, d.hh b x h e⟩
  nw := fun b x e z => z
theorem Gr.na (t : Gr A G H G1 H1) (n : G a = none) (s : Stt H a) : G1 a = none := by
  obtain ⟨z, e, _⟩ := s
  exact t.nw a _ e n
theorem Gr.dr (t : Gr (· = a) G H G1 H1) (n : G a = none) (s : Stt H a) (s1 : Stt H1 a) (d : Dr a H1 H2) : Gr (· = a) G H G1 H2 :=
  t.trans (Dr.gr t.gh (t.na n s) s1 d)
end
/-! ### the laws' own draws -/
def AL : Str := "\n !\"#$&'()*+,-./0123456789:;<=>?@ABCDEFGHIJKLMNOPQRSTUVWXYZ[\\]^_`abcdefghijklmnopqrstuvwxyz{|}~"
def InAL (z : Str) : Prop := ∀ c ∈ cs z, c ∈ cs AL
theorem AL_len : AL.length = 95 := by decide +kernel
def spDraw : Sp := fun vs H Q _ => ∃ (a : Addr) (n : Int), vs = [.ref a, .int n] ∧ Stt H a ∧ 0 < n ∧ ∀ (d : Int) H', 0 ≤ d → d < n → Dr a H H' → Q (.int d) H'
def spStart (K : PySem.W.Frag) : Sp := fun vs H Q _ => ∃ (s : Addr) (ns : List Int), vs = [.ref s] ∧ SqL K H s (ns.map V.int) ∧ ∀ p H', Ex H H' → H p = none → Stt H' p → Q (.ref p) H'
def spSigns : Sp := fun vs H Q _ => vs = [] ∧ Q (.str AL) H
def spText : Sp := fun vs H Q _ => ∃ (a : Addr) (n : Int), vs = [.ref a, .int n] ∧ Stt H a ∧ 0 ≤ n ∧ n ≤ 8000 ∧ ∀ o H', Dr a H H' → (o.length : Int) = n → InAL o → Q (.str o) H'
theorem mix_next {z : Int} (e : Int) : 0 ≤ e % M61 ∧ e % M61 < M61 := ⟨Int.emod_nonneg _ (by decide), Int.emod_lt_of_pos _ (by decide)⟩
/-! ### what is known at a place of a drawing def -/
structure Wd (a : Addr) (G H : Hp) : Prop where
  g : Ex G H
  na : G a = none
  st : Stt H a
section
variable {a p : Addr} {G H G1 H1 G2 H2 : Hp} {o : HO} {xs : List V} {Q : VK}
theorem Wd.step (x : Wd a G H) (t : Gr (· = a) G H G1 H1) (s : Stt H1 a) : Wd a G1 H1 := ⟨t.gh, t.na x.na x.st, s⟩
theorem Wd.pure (x : Wd a G H) (t : Gr A0 G H G1 H1) : Wd a G1 H1 := ⟨t.gh, t.na x.na x.st, x.st.up t.same⟩
theorem Wd.ex (x : Wd a G H) (e : Ex H H1) : Wd a G H1 := ⟨x.g.trans e, x.na, x.st.up e⟩
theorem Wd.dr (x : Wd a G H) (d : Dr a H H1) : Wd a G H1 := ⟨(Dr.gr x.g x.na x.st d).gh, x.na, d.st⟩
theorem Wd.gdr (x : Wd a G H) (d : Dr a H H1) : Gr (· = a) G H G H1 := Dr.gr x.g x.na x.st d
/-- a new list, known for good -/
theorem w_lst (x : Wd a G H) (k : ∀ p G' H', Gr A0 G H G' H' → Wd a G' H' → G' p = some (.lst xs) → Q (.ref p) H') :
    ∀ p, H p = none → Q (.ref p) (upd H p (.lst xs)) := fun p hp => k p _ _ (Gr.new x.g hp) (x.pure (Gr.new x.g hp)) upd_same
theorem w_tup (x : Wd a G H) (k : ∀ p G' H', Gr A0 G H G' H' → Wd a G' H' → G' p = some (.tup xs) → Q (.ref p) H') :
    ∀ p, H p = none → Q (.ref p) (upd H p (.tup xs)) := fun p hp => k p _ _ (Gr.new x.g hp) (x.pure (Gr.new x.g hp)) upd_same
end
theorem new_ex {G H : Hp} {p : Addr} (g : Ex G H) (hp : H p = none) (o : HO) : ∃ G' H', H' = upd H p o ∧ Gr A0 G H G' H' ∧ G' p = some o :=
  ⟨_, _, rfl, Gr.new g hp, upd_same⟩
theorem w_new {a p : Addr} {G H : Hp} (x : Wd a G H) (hp : H p = none) (o : HO) : ∃ G' H', H' = upd H p o ∧ Gr A0 G H G' H' ∧ Wd a G' H' ∧ G' p = some o :=
  ⟨_, _, rfl, Gr.new x.g hp, x.pure (Gr.new x.g hp), upd_same⟩
theorem atI_m1 {xs : List V} (h : xs ≠ []) : ∃ x, atI xs (-1) = some x ∧ x ∈ xs := by
  obtain ⟨l, y, rfl⟩ : ∃ l y, xs = l ++ [y] := ⟨_, _, (List.dropLast_concat_getLast h).symm⟩
  exact ⟨y, atI_last _ _, by simp⟩
theorem own_ex {G H : Hp} {p : Addr} (g : Ex G H) (hp : H p = none) (o : HO) : ∃ H', H' = upd H p o ∧ Gr A0 G H G H' ∧ H' p = some o ∧ G p = none :=
  ⟨_, rfl, Gr.own g hp, upd_same, g.free hp⟩
theorem Gr.fresh {A : Addr → Prop} {G H G1 H1 : Hp} {p : Addr} (t : Gr A G H G1 H1) (h : H1 p = none) : H p = none := by
  cases e : H p with
  | none => rfl
  | some o =>
    obtain ⟨o', z⟩ := t.th p o e
    rw [h] at z
    cases z
theorem ixN_nat {n : Nat} {i : Int} (h0 : 0 ≤ i) (h : i < (n : Int)) : ixN n i = some i.toNat := by
  unfold ixN
  rw [if_pos h0, if_pos h]
/-! loops whose source is reckoned -/
section
variable {K : PySem.W.Frag} {σ : L2.St} {H : Hp} {tl : TE} {ta : TA} {g : TG} {tb : TS} {D : Ends}
def LoopW (J : It) (g : TG) (tb : TS) (D : Ends) (σ : L2.St) (H1 : Hp) : Prop := ∃ W : Nat → Nat → L2.St → Hp → Prop, (∃ m, W 0 m σ H1) ∧ ∀ i m σ H, W i m σ H →
  (J.stop i H ∧ D.nx σ H) ∨ (J.go i H ∧ ∃ N : L2.St → Hp → Prop, (∀ σ' H', N σ' H' → ∃ m', m' < m ∧ W (i + 1) m' σ' H') ∧ ∀ x H', J.yld i H x H' → g x σ H' fun σ2 H2 => tb { D with nx := N, ct := N, bk := D.nx } σ2 H2)
theorem r_forLo (h : tl σ H fun x H1 => ∃ a, x = .ref a ∧ (∃ xs, SqL K H1 a xs) ∧ LoopW (Itl K a) g tb D σ H1) : tFor (iList K tl) g tb D σ H := h
theorem r_forTo (h : tl σ H fun x H1 => ∃ a, x = .ref a ∧ (∃ xs, SqT K H1 a xs) ∧ LoopW (Itt K a) g tb D σ H1) : tFor (iTup K tl) g tb D σ H := h
theorem r_forSo (h : tl σ H fun x H1 => ∃ z, x = .str z ∧ LoopW (Its z) g tb D σ H1) : tFor (iStr tl) g tb D σ H := h
theorem r_forRo (h : ta σ H fun vs H1 => ∃ j : Int, vs = [.int j] ∧ -(2 ^ 62) ≤ j ∧ j < 2 ^ 62 ∧ LoopW (Itr 0 j.toNat) g tb D σ H1) : tFor (iRng1 ta) g tb D σ H := h
theorem r_forR2o (h : ta σ H fun vs H1 => ∃ i j : Int, vs = [.int i, .int j] ∧ (-(2 ^ 62) ≤ i ∧ i < 2 ^ 62 ∧ -(2 ^ 62) ≤ j ∧ j < 2 ^ 62) ∧ LoopW (Itr i (j - i).toNat) g tb D σ H1) : tFor (iRng2 ta) g tb D σ H := h
theorem r_forEo (h : ta σ H fun vs H1 => ∃ a xs, vs = [.ref a] ∧ SqT K H1 a xs ∧ LoopW (ItE (fun H => SqT K H a xs) xs.length fun i _ x => xs[i]? = some x) g tb D σ H1) : tFor (Dk.iEnumT K ta) g tb D σ H := h
theorem r_forESo (h : ta σ H fun vs H1 => ∃ z, vs = [.str z] ∧ LoopW (ItE (fun _ => True) z.cps.size fun i _ x => ∃ c, z.cps[i]? = some c ∧ x = .str ⟨#[c]⟩) g tb D σ H1) : tFor (Dk.iEnumS ta) g tb D σ H := h
theorem l_L {a : Addr} {xs : List V} (hs : SqL K H a xs) (Pv : Nat → L2.St → Hp → Prop) (p0 : Pv 0 σ H) (hl : ∀ i σ H, Pv i σ H → SqL K H a xs)
    (ht : ∀ i x σ H, xs[i]? = some x → Pv i σ H → g x σ H fun σ2 H2 => tb { D with nx := Pv (i + 1), ct := Pv (i + 1), bk := D.nx } σ2 H2) (hd : ∀ σ H, Pv xs.length σ H → D.nx σ H) :
    ∃ b, V.ref a = .ref b ∧ (∃ xs, SqL K H b xs) ∧ LoopW (Itl K b) g tb D σ H :=
  ⟨a, rfl, ⟨xs, hs⟩, for_it walk_list Pv p0 (fun i σ H _ p => hl i σ H p) (fun i x σ H H' hi p y => by
    obtain ⟨rfl, hx⟩ := y
    exact ht i x σ _ hx p) hd⟩
theorem l_T {a : Addr} {xs : List V} (hs : SqT K H a xs) (Pv : Nat → L2.St → Hp → Prop) (p0 : Pv 0 σ H) (hl : ∀ i σ H, Pv i σ H → SqT K H a xs)
    (ht : ∀ i x σ H, xs[i]? = some x → Pv i σ H → g x σ H fun σ2 H2 => tb { D with nx := Pv (i + 1), ct := Pv (i + 1), bk := D.nx } σ2 H2) (hd : ∀ σ H, Pv xs.length σ H → D.nx σ H) :
    ∃ b, V.ref a = .ref b ∧ (∃ xs, SqT K H b xs) ∧ LoopW (Itt K b) g tb D σ H :=
  ⟨a, rfl, ⟨xs, hs⟩, for_it walk_tup Pv p0 (fun i σ H _ p => hl i σ H p) (fun i x σ H H' hi p y => by
    obtain ⟨rfl, hx⟩ := y
    exact ht i x σ _ hx p) hd⟩
theorem l_S {z : Str} (Pv : Nat → L2.St → Hp → Prop) (p0 : Pv 0 σ H)
    (ht : ∀ i c σ H, (cs z)[i]? = some c → Pv i σ H → g (.str ⟨#[c]⟩) σ H fun σ2 H2 => tb { D with nx := Pv (i + 1), ct := Pv (i + 1), bk := D.nx } σ2 H2) (hd : ∀ σ H, Pv z.length σ H → D.nx σ H) :
    ∃ y, V.str z = .str y ∧ LoopW (Its y) g tb D σ H := by
  refine ⟨z, rfl, for_it walk_str Pv p0 (fun _ _ _ _ _ => trivial) (fun i x σ H H' hi p y => ?_) hd⟩
  obtain ⟨rfl, c, hc, rfl⟩ := y
  exact ht i c σ _ (by rw [Array.getElem?_toList]; exact hc) p
theorem l_R {n : Int} (h1 : -1000000 ≤ n) (h2 : n ≤ 1000000) (Pv : Nat → L2.St → Hp → Prop) (p0 : Pv 0 σ H)
    (ht : ∀ (i : Nat) σ H, (i : Int) < n → Pv i σ H → g (.int (i : Nat)) σ H fun σ2 H2 => tb { D with nx := Pv (i + 1), ct := Pv (i + 1), bk := D.nx } σ2 H2) (hd : ∀ σ H, Pv n.toNat σ H → D.nx σ H) :
    ∃ j : Int, [V.int n] = [.int j] ∧ -(2 ^ 62) ≤ j ∧ j < 2 ^ 62 ∧ LoopW (Itr 0 j.toNat) g tb D σ H := by
  refine ⟨n, rfl, by omega, by omega, for_range Pv p0 (fun i σ H hi p => ?_) hd⟩
  have z := ht i σ H (by omega) p
  rw [Int.zero_add]
  exact z
theorem l_E {a : Addr} {xs : List V} (hs : SqT K H a xs) (Pv : Nat → L2.St → Hp → Prop) (p0 : Pv 0 σ H) (hl : ∀ i σ H, Pv i σ H → SqT K H a xs)
    (ht : ∀ i x σ H p, xs[i]? = some x → Pv i σ H → H p = none → g (.ref p) σ (upd H p (.tup [.int (i : Nat), x])) fun σ2 H2 => tb { D with nx := Pv (i + 1), ct := Pv (i + 1), bk := D.nx } σ2 H2)
    (hd : ∀ σ H, Pv xs.length σ H → D.nx σ H) : ∃ b ys, [V.ref a] = [.ref b] ∧ SqT K H b ys ∧ LoopW (ItE (fun H => SqT K H b ys) ys.length fun i _ x => ys[i]? = some x) g tb D σ H := by
  refine ⟨a, xs, rfl, hs, for_it walk_E Pv p0 (fun i σ H _ p => hl i σ H p) (fun i x σ H H' hi p y => ?_) hd⟩
  obtain ⟨T, x', rfl, hT, rfl, hx⟩ := y
  exact ht i x' σ H T hx p hT
end
theorem cutV_mem {xs : List V} {lo hi : Option Int} {x : V} (h : x ∈ cutV xs lo hi) : x ∈ xs := List.mem_of_mem_drop (List.mem_of_mem_take h)
theorem cutV_len {xs : List V} {lo hi : Option Int} : (cutV xs lo hi).length ≤ xs.length := by
  unfold cutV
  rw [List.length_take, List.length_drop]
  omega
theorem cutV_to (xs : List V) (n : Nat) : cutV xs none (some (n : Int)) = xs.take n := by
  unfold cutV
  rw [HT.sIx_nat, HT.sIx_none, List.drop_zero, Nat.sub_zero]
  by_cases h : n ≤ xs.length
  · rw [Nat.min_eq_left h]
  · rw [Nat.min_eq_right (by omega), List.take_of_length_le (Nat.le_refl _), List.take_of_length_le (by omega)]
theorem atI_lt {xs : List V} {i : Int} (h0 : 0 ≤ i) (h : i < (xs.length : Int)) : ∃ x, atI xs i = some x ∧ x ∈ xs := by
  have hi : i.toNat < xs.length := by omega
  exact ⟨xs[i.toNat], at_g (by omega) (List.getElem?_eq_getElem hi), List.getElem_mem _⟩
end Dk

/-! the told order: signs, the relation by its hops, its closure by rounds over a table of bits -/
namespace Tl
abbrev Sg := Nat × Nat
section
variable (L R : Nat → Sg)
/-- told ahead, by hops -/
inductive A : Sg → Sg → Prop where
  | same {x y : Sg} (h : x.1 = y.1) (i : x.2 < y.2) : A x y
  | rEq {x y : Sg} (h : y.1 < x.1) (e : R x.1 = y) : A x y
  | rGo {x y : Sg} (h : y.1 < x.1) (a : A (R x.1) y) : A x y
  | lEq {x y : Sg} (h : x.1 < y.1) (e : x = L y.1) : A x y
  | lGo {x y : Sg} (h : x.1 < y.1) (a : A x (L y.1)) : A x y
def E (x y : Sg) : Prop := x = y ∨ A L R x y
end
section
variable {L R : Nat → Sg} {x y z : Sg}
theorem A.same_iff (h : x.1 = y.1) : A L R x y ↔ x.2 < y.2 :=
  ⟨fun a => by cases a with
    | same _ i => exact i
    | rEq g _ => omega
    | rGo g _ => omega
    | lEq g _ => omega
    | lGo g _ => omega, fun i => .same h i⟩
theorem A.r_iff (h : y.1 < x.1) : A L R x y ↔ E L R (R x.1) y :=
  ⟨fun a => by cases a with
    | same g _ => omega
    | rEq _ e => exact .inl e
    | rGo _ a => exact .inr a
    | lEq g _ => omega
    | lGo g _ => omega, fun e => e.elim (.rEq h) (.rGo h)⟩
theorem A.l_iff (h : x.1 < y.1) : A L R x y ↔ E L R x (L y.1) :=
  ⟨fun a => by cases a with
    | same g _ => omega
    | rEq g _ => omega
    | rGo g _ => omega
    | lEq _ e => exact .inl e
    | lGo _ a => exact .inr a, fun e => e.elim (.lEq h) (.lGo h)⟩
theorem A.irr : ¬ A L R x x := fun a => by
  have z := (A.same_iff (L := L) (R := R) (rfl : x.1 = x.1)).mp a
  omega
/-- births below n: left and right of lesser chunks, the left told ahead of the right -/
structure Bs (L R : Nat → Sg) (n : Nat) : Prop where
  l : ∀ c, 0 < c → c < n → (L c).1 < c
  r : ∀ c, 0 < c → c < n → (R c).1 < c
  lr : ∀ c, 0 < c → c < n → A L R (L c) (R c)
theorem Bs.mono {n m : Nat} (b : Bs L R n) (h : m ≤ n) : Bs L R m := ⟨fun c h0 h1 => b.l c h0 (by omega), fun c h0 h1 => b.r c h0 (by omega), fun c h0 h1 => b.lr c h0 (by omega)⟩
theorem Bs.trans {n : Nat} (b : Bs L R n) : ∀ m, m ≤ n → ∀ x y z : Sg, x.1 < m → y.1 < m → z.1 < m → A L R x y → A L R y z → A L R x z := by
  intro m
  induction m with
  | zero => intro _ x y z h; omega
  | succ m ih =>
    intro hm x y z hx hy hz a1 a2
    have ih' := ih (by omega)
    have eT : ∀ {u v t : Sg}, u.1 < m → v.1 < m → t.1 < m → E L R u v → A L R v t → A L R u t := fun h1 h2 h3 e a => by
      rcases e with rfl | e
      · exact a
      · exact ih' _ _ _ h1 h2 h3 e a
    have tE : ∀ {u v t : Sg}, u.1 < m → v.1 < m → t.1 < m → A L R u v → E L R v t → A L R u t := fun h1 h2 h3 a e => by
      rcases e with rfl | e
      · exact a
      · exact ih' _ _ _ h1 h2 h3 a e
    by_cases cx : x.1 = m
    · by_cases cy : y.1 = m
      · by_cases cz : z.1 = m
        · have i1 := (A.same_iff (by omega)).mp a1
          have i2 := (A.same_iff (by omega)).mp a2
          exact .same (by omega) (by omega)
        · have e2 := (A.r_iff (by omega)).mp a2
          exact (A.r_iff (by omega)).mpr (by rw [show x.1 = y.1 by omega]; exact e2)
      · by_cases cz : z.1 = m
        · exfalso
          have m0 : 0 < m := by omega
          have hl := b.l m m0 (by omega)
          have hr := b.r m m0 (by omega)
          have hlr := b.lr m m0 (by omega)
          have e1 := (A.r_iff (by omega)).mp a1
          have e2 := (A.l_iff (by omega)).mp a2
          rw [cx] at e1
          rw [cz] at e2
          have a3 : A L R (L m) y := tE hl hr (by omega) hlr e1
          have a4 : A L R (L m) (L m) := tE hl (by omega) hl a3 e2
          exact A.irr a4
        · have e1 := (A.r_iff (by omega)).mp a1
          have hr := b.r x.1 (by omega) (by omega)
          exact (A.r_iff (by omega)).mpr (.inr (eT (by omega) (by omega) (by omega) e1 a2))
    · by_cases cy : y.1 = m
      · by_cases cz : z.1 = m
        · have e1 := (A.l_iff (by omega)).mp a1
          exact (A.l_iff (by omega)).mpr (by rw [show z.1 = y.1 by omega]; exact e1)
        · have e1 := (A.l_iff (by omega)).mp a1
          have e2 := (A.r_iff (by omega)).mp a2
          have hl := b.l y.1 (by omega) (by omega)
          have hr := b.r y.1 (by omega) (by omega)
          have hlr := b.lr y.1 (by omega) (by omega)
          have a3 := eT (by omega) (by omega) (by omega) e1 hlr
          exact tE (by omega) (by omega) (by omega) a3 e2
      · by_cases cz : z.1 = m
        · have e2 := (A.l_iff (by omega)).mp a2
          have hl := b.l z.1 (by omega) (by omega)
          exact (A.l_iff (by omega)).mpr (.inr (tE (by omega) (by omega) (by omega) a1 e2))
        · exact ih' x y z (by omega) (by omega) (by omega) a1 a2
theorem Bs.tr {n : Nat} (b : Bs L R n) (hx : x.1 < n) (hy : y.1 < n) (hz : z.1 < n) (a1 : A L R x y) (a2 : A L R y z) : A L R x z := b.trans n (Nat.le_refl n) x y z hx hy hz a1 a2
/-- only births up to the greater chunk count -/
theorem A.congr {L' R' : Nat → Sg} {n : Nat} (hl : ∀ c, 0 < c → c < n → L c = L' c) (hr : ∀ c, 0 < c → c < n → R c = R' c) (b : ∀ c, 0 < c → c < n → (L c).1 < c ∧ (R c).1 < c) :
    ∀ {x y : Sg}, A L R x y → x.1 < n → y.1 < n → A L' R' x y := fun {x y} a => by
  induction a with
  | same h i => exact fun _ _ => .same h i
  | @rEq x y h e => exact fun hx hy => .rEq h ((hr x.1 (by omega) hx).symm.trans e)
  | @rGo x y h a ih =>
    intro hx hy
    have e := hr x.1 (by omega) hx
    have w := (b x.1 (by omega) hx).2
    exact .rGo h (e ▸ ih (by omega) hy)
  | @lEq x y h e => exact fun hx hy => .lEq h (e.trans (hl y.1 (by omega) hy))
  | @lGo x y h a ih =>
    intro hx hy
    have e := hl y.1 (by omega) hy
    have w := (b y.1 (by omega) hy).1
    exact .lGo h (e ▸ ih hx (by omega))
end
/-! ### paths -/
inductive Pth (S : List (Nat × Nat)) : Nat → Nat → Nat → Prop where
  | one {a b : Nat} (h : (a, b) ∈ S) : Pth S 1 a b
  | step {k a b c : Nat} (h : (a, b) ∈ S) (p : Pth S k b c) : Pth S (k + 1) a c
def Rch (S : List (Nat × Nat)) (a b : Nat) : Prop := ∃ k, Pth S k a b
section
variable {S : List (Nat × Nat)} {a b c : Nat}
theorem Pth.app {k m : Nat} (p : Pth S k a b) (q : Pth S m b c) : Rch S a c := by
  induction p with
  | one h => exact ⟨_, .step h q⟩
  | step h p ih =>
    obtain ⟨k', r⟩ := ih q
    exact ⟨_, .step h r⟩
theorem Rch.tr (p : Rch S a b) (q : Rch S b c) : Rch S a c := by
  obtain ⟨k, p⟩ := p
  obtain ⟨m, q⟩ := q
  exact p.app q
/-- a list without repeats within another one is no longer -/
theorem nodup_le : ∀ {l m : List Nat}, l.Nodup → (∀ x ∈ l, x ∈ m) → l.length ≤ m.length
  | [], m, _, _ => Nat.zero_le _
  | x :: r, m, hn, hm => by
    have hx : x ∈ m := hm x (List.mem_cons_self ..)
    have hn' := List.nodup_cons.mp hn
    have h1 : ∀ y ∈ r, y ∈ m.erase x := fun y hy => (List.mem_erase_of_ne (by
      rintro rfl
      exact hn'.1 hy)).mpr (hm y (List.mem_cons_of_mem _ hy))
    have h2 := nodup_le hn'.2 h1
    rw [List.length_erase_of_mem hx] at h2
    have h3 : 0 < m.length := List.length_pos_of_mem hx
    rw [List.length_cons]
    omega
theorem Pth.bound {k n : Nat} {lt : Nat → Nat → Prop} (hS : ∀ a b, (a, b) ∈ S → lt a b ∧ a < n ∧ b < n) (tr : ∀ a b c, a < n → b < n → c < n → lt a b → lt b c → lt a c) (ir : ∀ a, ¬ lt a a) (p : Pth S k a b) : k + 1 ≤ n := by
  have key : ∀ {k a b}, Pth S k a b → ∃ l : List Nat, l.length = k ∧ (a :: l).Nodup ∧ (∀ x ∈ l, lt a x) ∧ ∀ x ∈ a :: l, x < n := by
    intro k a b p
    induction p with
    | @one a b h =>
      obtain ⟨h1, h2, h3⟩ := hS _ _ h
      refine ⟨[b], rfl, ?_, by simpa using h1, by simp [h2, h3]⟩
      simp
      exact fun e => ir a (e ▸ h1)
    | @step k a b c h p ih =>
      obtain ⟨l, hl, hn, hlt, hb⟩ := ih
      obtain ⟨h1, h2, h3⟩ := hS _ _ h
      have all : ∀ x ∈ b :: l, lt a x := fun x hx => by
        rcases List.mem_cons.mp hx with rfl | hx
        · exact h1
        · exact tr a b x h2 h3 (hb x (List.mem_cons_of_mem _ hx)) h1 (hlt x hx)
      refine ⟨b :: l, by rw [List.length_cons, hl], List.nodup_cons.mpr ⟨fun hm => ir a (all a hm), hn⟩, all, fun x hx => ?_⟩
      rcases List.mem_cons.mp hx with rfl | hx
      · exact h2
      · exact hb x hx
  obtain ⟨l, hl, hn, _, hb⟩ := key p
  have z := nodup_le (m := List.range n) hn fun x hx => List.mem_range.mpr (hb x hx)
  rw [List.length_cons, hl, List.length_range] at z
  exact z
end
/-! ### the table -/
def put (T : List Nat) (e : Nat × Nat) : List Nat := T.set e.1 (T.getD e.1 0 ||| 1 <<< e.2 ||| T.getD e.2 0)
def lap (S : List (Nat × Nat)) (T : List Nat) : List Nat := S.foldl put T
/-- T has b behind a -/
def Bit (T : List Nat) (a b : Nat) : Prop := (T.getD a 0).testBit b = true
section
variable {S : List (Nat × Nat)} {T : List Nat} {n : Nat}
theorem put_len (e : Nat × Nat) : (put T e).length = T.length := List.length_set ..
theorem lap_len : ∀ (S : List (Nat × Nat)) (T : List Nat), (lap S T).length = T.length
  | [], _ => rfl
  | e :: r, T => (lap_len r (put T e)).trans (put_len e)
theorem bit_put {e : Nat × Nat} (h : e.1 < T.length) {a b : Nat} : Bit (put T e) a b ↔ Bit T a b ∨ (a = e.1 ∧ (b = e.2 ∨ Bit T e.2 b)) := by
  unfold Bit put
  by_cases ha : a = e.1
  · subst ha
    have g : (T.set e.1 (T.getD e.1 0 ||| 1 <<< e.2 ||| T.getD e.2 0)).getD e.1 0 = T.getD e.1 0 ||| 1 <<< e.2 ||| T.getD e.2 0 := by
      simp [List.getD, List.getElem?_set, h]
    rw [g, Nat.testBit_or, Nat.testBit_or, Nat.one_shiftLeft, Nat.testBit_two_pow, Bool.or_eq_true, Bool.or_eq_true, decide_eq_true_iff]
    constructor
    · rintro ((h | h) | h)
      · exact .inl h
      · exact .inr ⟨rfl, .inl h.symm⟩
      · exact .inr ⟨rfl, .inr h⟩
    · rintro (h | ⟨_, h | h⟩)
      · exact .inl (.inl h)
      · exact .inl (.inr h.symm)
      · exact .inr h
  · have g : (T.set e.1 (T.getD e.1 0 ||| 1 <<< e.2 ||| T.getD e.2 0)).getD a 0 = T.getD a 0 := by
      simp [List.getD, List.getElem?_set, Ne.symm ha]
    rw [g]
    constructor
    · exact fun h => .inl h
    · rintro (h | ⟨h, _⟩)
      · exact h
      · exact absurd h ha
theorem lap_mono : ∀ (S : List (Nat × Nat)) {T : List Nat}, (∀ e ∈ S, e.1 < T.length) → ∀ {a b}, Bit T a b → Bit (lap S T) a b
  | [], _, _, _, _, h => h
  | e :: r, T, hS, a, b, h => lap_mono r (fun e' he => by rw [put_len]; exact hS e' (List.mem_cons_of_mem _ he)) ((bit_put (hS e (List.mem_cons_self ..))).mpr (.inl h))
theorem lap_edge : ∀ (S : List (Nat × Nat)) {T : List Nat}, (∀ e ∈ S, e.1 < T.length) → ∀ {a b c}, (a, b) ∈ S → c = b ∨ Bit T b c → Bit (lap S T) a c
  | e :: r, T, hS, a, b, c, hm, h => by
    have hr : ∀ e' ∈ r, e'.1 < (put T e).length := fun e' he => by rw [put_len]; exact hS e' (List.mem_cons_of_mem _ he)
    rcases List.mem_cons.mp hm with rfl | hm
    · exact lap_mono r hr ((bit_put (hS _ (List.mem_cons_self ..))).mpr (.inr ⟨rfl, h⟩))
    · refine lap_edge r hr hm (h.imp id fun h => (bit_put (hS e (List.mem_cons_self ..))).mpr (.inl h))
theorem lap_sound : ∀ (S : List (Nat × Nat)) {S0 : List (Nat × Nat)} {T : List Nat}, (∀ e ∈ S, e ∈ S0) → (∀ e ∈ S, e.1 < T.length) → (∀ a b, Bit T a b → Rch S0 a b) → ∀ a b, Bit (lap S T) a b → Rch S0 a b
  | [], _, _, _, _, h => h
  | e :: r, S0, T, h0, hS, h => lap_sound r (fun e' he => h0 e' (List.mem_cons_of_mem _ he)) (fun e' he => by rw [put_len]; exact hS e' (List.mem_cons_of_mem _ he)) fun a b hb => by
    refine Or.elim ((bit_put (hS e (List.mem_cons_self ..))).mp hb) (fun hb => h a b hb) fun hb => ?_
    · obtain ⟨ea, hb2⟩ := hb
      subst ea
      have he : Rch S0 e.1 e.2 := ⟨1, .one (h0 e (List.mem_cons_self ..))⟩
      refine Or.elim hb2 (fun e1 => ?_) (fun hb => he.tr (h _ _ hb))
      rw [e1]
      exact he
/-- behind r laps all paths of at most r steps are there -/
def Upto (S : List (Nat × Nat)) (T : List Nat) (r : Nat) : Prop := ∀ k a b, Pth S k a b → k ≤ r → Bit T a b
theorem Upto.lap {r : Nat} (hS : ∀ e ∈ S, e.1 < T.length) (u : Upto S T r) : Upto S (lap S T) (r + 1) := fun k a b p hk => by
  cases p with
  | one h => exact lap_edge S hS h (.inl rfl)
  | step h p => exact lap_edge S hS h (.inr (u _ _ _ p (by omega)))
/-- where a lap changes nothing all paths are there -/
theorem still_all (hS : ∀ e ∈ S, e.1 < T.length) (h : ∀ a b c, (a, b) ∈ S → c = b ∨ Bit T b c → Bit T a c) {a b : Nat} (p : Rch S a b) : Bit T a b := by
  obtain ⟨k, p⟩ := p
  induction p with
  | one h' => exact h _ _ _ h' (.inl rfl)
  | step h' p ih => exact h _ _ _ h' (.inr ih)
end
end Tl

namespace Tl
/-! ### signs in a row, steps -/
section
variable (sz : Nat → Nat)
def off : Nat → Nat
  | 0 => 0
  | c + 1 => off c + sz c
def rowOf (c : Nat) : List Sg := (List.range (sz c)).map fun i => (c, i)
def marks : Nat → List Sg
  | 0 => []
  | c + 1 => marks c ++ rowOf sz c
def ps (x : Sg) : Nat := off sz x.1 + x.2
/-- a sign of the births below n -/
def Ok (n : Nat) (x : Sg) : Prop := x.1 < n ∧ x.2 < sz x.1
end
section
variable {sz : Nat → Nat} {n : Nat} {x y : Sg}
theorem rowOf_len (c : Nat) : (rowOf sz c).length = sz c := by simp [rowOf]
theorem marks_len : ∀ n, (marks sz n).length = off sz n
  | 0 => rfl
  | n + 1 => by
    show (marks sz n ++ rowOf sz n).length = off sz n + sz n
    rw [List.length_append, marks_len n, rowOf_len]
theorem marks_at : ∀ {n : Nat} {x : Sg}, Ok sz n x → (marks sz n)[ps sz x]? = some x
  | 0, x, h => absurd h.1 (Nat.not_lt_zero _)
  | n + 1, x, h => by
    show (marks sz n ++ rowOf sz n)[ps sz x]? = some x
    by_cases hx : x.1 < n
    · have ih := marks_at (n := n) ⟨hx, h.2⟩
      obtain ⟨hl, _⟩ := List.getElem?_eq_some_iff.mp ih
      rw [List.getElem?_append_left hl]
      exact ih
    · have e : x.1 = n := by have := h.1; omega
      have e2 : ps sz x = (marks sz n).length + x.2 := by unfold ps; rw [marks_len, e]
      rw [e2, List.getElem?_append_right (by omega), Nat.add_sub_cancel_left]
      unfold rowOf
      rw [List.getElem?_map, List.getElem?_range (by rw [← e]; exact h.2)]
      show some (n, x.2) = some x
      rw [← e]
theorem mem_marks : ∀ {n : Nat} {x : Sg}, x ∈ marks sz n ↔ Ok sz n x
  | 0, x => by simp [marks, Ok]
  | n + 1, x => by
    show x ∈ marks sz n ++ rowOf sz n ↔ _
    rw [List.mem_append, mem_marks]
    unfold rowOf Ok
    simp only [List.mem_map, List.mem_range]
    constructor
    · rintro (⟨h1, h2⟩ | ⟨i, hi, rfl⟩)
      · exact ⟨by omega, h2⟩
      · exact ⟨by show n < n + 1; omega, hi⟩
    · rintro ⟨h1, h2⟩
      by_cases hx : x.1 < n
      · exact .inl ⟨hx, h2⟩
      · have e : x.1 = n := by omega
        refine .inr ⟨x.2, by rw [← e]; exact h2, ?_⟩
        rw [← e]
theorem ps_lt (h : Ok sz n x) : ps sz x < off sz n := by
  have := (List.getElem?_eq_some_iff.mp (marks_at h)).1
  rw [marks_len] at this
  exact this
theorem ps_inj (hx : Ok sz n x) (hy : Ok sz n y) (e : ps sz x = ps sz y) : x = y := by
  have h1 := marks_at hx
  rw [e, marks_at hy] at h1
  exact (Option.some.inj h1).symm
theorem sign_at {j : Nat} (h : j < off sz n) : ∃ x, Ok sz n x ∧ ps sz x = j := by
  have hj : j < (marks sz n).length := by rw [marks_len]; exact h
  have hm : (marks sz n)[j] ∈ marks sz n := List.getElem_mem hj
  have ok := mem_marks.mp hm
  refine ⟨_, ok, ?_⟩
  have key : ∀ {n j : Nat} {x : Sg}, (marks sz n)[j]? = some x → ps sz x = j := by
    intro n
    induction n with
    | zero => intro j x h; simp [marks] at h
    | succ n ih =>
      intro j x h
      have h' : (marks sz n ++ rowOf sz n)[j]? = some x := h
      by_cases hl : j < (marks sz n).length
      · rw [List.getElem?_append_left hl] at h'
        exact ih h'
      · rw [List.getElem?_append_right (by omega)] at h'
        unfold rowOf at h'
        rw [List.getElem?_map] at h'
        obtain ⟨i, hi, rfl⟩ := Option.map_eq_some_iff.mp h'
        have e := (List.getElem?_eq_some_iff.mp hi).2
        simp at e
        unfold ps
        show off sz n + i = j
        rw [marks_len] at e hl
        omega
  exact key (List.getElem?_eq_getElem hj)
end
section
variable (L R : Nat → Sg) (sz : Nat → Nat)
def stepsOf (c : Nat) : List (Nat × Nat) := (ps sz (L c), off sz c) :: ((List.range (sz c - 1)).map fun i => (off sz c + i, off sz c + i + 1)) ++ [(off sz c + sz c - 1, ps sz (R c))]
/-- the steps of the births 1 to n -/
def steps : Nat → List (Nat × Nat)
  | 0 => [(0, 1)]
  | n + 1 => steps n ++ stepsOf L R sz (n + 1)
/-- births below n, as a sheet may make them -/
structure Wv (n : Nat) : Prop extends Bs L R n where
  n0 : 0 < n
  s0 : sz 0 = 2
  s1 : ∀ c, 0 < c → c < n → 0 < sz c
  lo : ∀ c, 0 < c → c < n → (L c).2 < sz (L c).1
  ro : ∀ c, 0 < c → c < n → (R c).2 < sz (R c).1
end
section
variable {L R : Nat → Sg} {sz : Nat → Nat} {n : Nat}
theorem Wv.okL (w : Wv L R sz n) {c : Nat} (h0 : 0 < c) (h : c < n) : Ok sz n (L c) := ⟨Nat.lt_trans (w.l c h0 h) h, w.lo c h0 h⟩
theorem Wv.okR (w : Wv L R sz n) {c : Nat} (h0 : 0 < c) (h : c < n) : Ok sz n (R c) := ⟨Nat.lt_trans (w.r c h0 h) h, w.ro c h0 h⟩
theorem Wv.mono (w : Wv L R sz n) {m : Nat} (h0 : 0 < m) (h : m ≤ n) : Wv L R sz m :=
  { Bs.mono w.toBs h with n0 := h0, s0 := w.s0, s1 := fun c h1 h2 => w.s1 c h1 (by omega), lo := fun c h1 h2 => w.lo c h1 (by omega), ro := fun c h1 h2 => w.ro c h1 (by omega) }
theorem mem_steps {m : Nat} {e : Nat × Nat} : e ∈ steps L R sz m ↔ e = (0, 1) ∨ ∃ c, 0 < c ∧ c ≤ m ∧ e ∈ stepsOf L R sz c := by
  induction m with
  | zero =>
    show e ∈ [(0, 1)] ↔ _
    rw [List.mem_singleton]
    constructor
    · exact .inl
    · rintro (h | ⟨c, h1, h2, _⟩)
      · exact h
      · omega
  | succ m ih =>
    show e ∈ steps L R sz m ++ stepsOf L R sz (m + 1) ↔ _
    rw [List.mem_append, ih]
    constructor
    · rintro ((h | ⟨c, h1, h2, h3⟩) | h)
      · exact .inl h
      · exact .inr ⟨c, h1, by omega, h3⟩
      · exact .inr ⟨m + 1, by omega, by omega, h⟩
    · rintro (h | ⟨c, h1, h2, h3⟩)
      · exact .inl (.inl h)
      · by_cases hc : c ≤ m
        · exact .inl (.inr ⟨c, h1, hc, h3⟩)
        · have e : c = m + 1 := by omega
          rw [e] at h3
          exact .inr h3
theorem mem_stepsOf {c : Nat} {e : Nat × Nat} : e ∈ stepsOf L R sz c ↔ e = (ps sz (L c), off sz c) ∨ (∃ i, i < sz c - 1 ∧ e = (off sz c + i, off sz c + i + 1)) ∨ e = (off sz c + sz c - 1, ps sz (R c)) := by
  unfold stepsOf
  simp only [List.cons_append, List.mem_cons, List.mem_append, List.mem_map, List.mem_range, List.not_mem_nil, or_false]
  constructor
  · rintro (h | ⟨i, hi, rfl⟩ | h)
    · exact .inl h
    · exact .inr (.inl ⟨i, hi, rfl⟩)
    · exact .inr (.inr h)
  · rintro (h | ⟨i, hi, rfl⟩ | h)
    · exact .inl h
    · exact .inr (.inl ⟨i, hi, rfl⟩)
    · exact .inr (.inr h)
/-- each step is one of the order -/
theorem step_A (w : Wv L R sz n) {a b : Nat} (h : (a, b) ∈ steps L R sz (n - 1)) : ∃ x y, Ok sz n x ∧ Ok sz n y ∧ ps sz x = a ∧ ps sz y = b ∧ A L R x y := by
  have n0 := w.n0
  rcases mem_steps.mp h with h | ⟨c, h1, h2, h3⟩
  · cases h
    refine ⟨(0, 0), (0, 1), ⟨n0, by rw [w.s0]; decide⟩, ⟨n0, by rw [w.s0]; decide⟩, rfl, rfl, .same rfl (by decide)⟩
  · have hc : c < n := by omega
    have hs := w.s1 c h1 hc
    rcases mem_stepsOf.mp h3 with e | ⟨i, hi, e⟩ | e
    · cases e
      exact ⟨L c, (c, 0), w.okL h1 hc, ⟨hc, hs⟩, rfl, rfl, .lEq (w.l c h1 hc) rfl⟩
    · cases e
      exact ⟨(c, i), (c, i + 1), ⟨hc, by show i < sz c; omega⟩, ⟨hc, by show i + 1 < sz c; omega⟩, rfl, by unfold ps; show off sz c + (i + 1) = _; omega, .same rfl (by show i < i + 1; omega)⟩
    · cases e
      exact ⟨(c, sz c - 1), R c, ⟨hc, by show sz c - 1 < sz c; omega⟩, w.okR h1 hc, by unfold ps; show off sz c + (sz c - 1) = _; omega, rfl, .rEq (w.r c h1 hc) rfl⟩
theorem rch_row (w : Wv L R sz n) {c : Nat} (hc : c < n) : ∀ {i j : Nat}, i < j → j < sz c → Rch (steps L R sz (n - 1)) (off sz c + i) (off sz c + j) := by
  intro i j hij
  obtain ⟨d, rfl⟩ : ∃ d, j = i + 1 + d := ⟨j - (i + 1), by omega⟩
  clear hij
  have one : ∀ i, i + 1 < sz c → Rch (steps L R sz (n - 1)) (off sz c + i) (off sz c + i + 1) := by
    intro i hi
    refine ⟨1, .one (mem_steps.mpr ?_)⟩
    by_cases h0 : c = 0
    · subst h0
      have z := w.s0
      have e : i = 0 := by omega
      subst e
      exact .inl rfl
    · exact .inr ⟨c, by omega, by omega, mem_stepsOf.mpr (.inr (.inl ⟨i, by omega, rfl⟩))⟩
  induction d with
  | zero => intro h; exact one i h
  | succ d ih =>
    intro h
    have p := ih (by omega)
    have q := one (i + 1 + d) (by omega)
    exact p.tr q
theorem rch_A (w : Wv L R sz n) {x y : Sg} (a : A L R x y) : Ok sz n x → Ok sz n y → Rch (steps L R sz (n - 1)) (ps sz x) (ps sz y) := by
  have toR : ∀ {x : Sg}, Ok sz n x → 0 < x.1 → Rch (steps L R sz (n - 1)) (ps sz x) (ps sz (R x.1)) := by
    intro x hx h0
    have e : Rch (steps L R sz (n - 1)) (off sz x.1 + sz x.1 - 1) (ps sz (R x.1)) := ⟨1, .one (mem_steps.mpr (.inr ⟨x.1, h0, by have := hx.1; omega, mem_stepsOf.mpr (.inr (.inr rfl))⟩))⟩
    by_cases hl : x.2 = sz x.1 - 1
    · have e2 : ps sz x = off sz x.1 + sz x.1 - 1 := by unfold ps; have := hx.2; omega
      rw [e2]
      exact e
    · have p := rch_row w hx.1 (i := x.2) (j := sz x.1 - 1) (by have := hx.2; omega) (by have := hx.2; omega)
      have e2 : off sz x.1 + (sz x.1 - 1) = off sz x.1 + sz x.1 - 1 := by have := hx.2; omega
      rw [e2] at p
      exact p.tr e
  have toL : ∀ {y : Sg}, Ok sz n y → 0 < y.1 → Rch (steps L R sz (n - 1)) (ps sz (L y.1)) (ps sz y) := by
    intro y hy h0
    have e : Rch (steps L R sz (n - 1)) (ps sz (L y.1)) (off sz y.1) := ⟨1, .one (mem_steps.mpr (.inr ⟨y.1, h0, by have := hy.1; omega, mem_stepsOf.mpr (.inl rfl)⟩))⟩
    by_cases hl : y.2 = 0
    · have e2 : ps sz y = off sz y.1 := by unfold ps; omega
      rw [e2]
      exact e
    · exact e.tr (rch_row w hy.1 (i := 0) (j := y.2) (by omega) hy.2)
  induction a with
  | @same x y h i =>
    intro hx hy
    unfold ps
    rw [← h]
    exact rch_row w hx.1 i (by rw [h]; exact hy.2)
  | @rEq x y h e => intro hx hy; exact e ▸ toR hx (by omega)
  | @rGo x y h a ih => intro hx hy; exact (toR hx (by omega)).tr (ih (w.okR (by omega) hx.1) hy)
  | @lEq x y h e => intro hx hy; exact e ▸ toL hy (by omega)
  | @lGo x y h a ih => intro hx hy; exact (ih hx (w.okL (by omega) hy.1)).tr (toL hy (by omega))
theorem A_rch (w : Wv L R sz n) {x y : Sg} (hx : Ok sz n x) (hy : Ok sz n y) (p : Rch (steps L R sz (n - 1)) (ps sz x) (ps sz y)) : A L R x y := by
  obtain ⟨k, p⟩ := p
  have key : ∀ {k a b}, Pth (steps L R sz (n - 1)) k a b → ∃ u v, Ok sz n u ∧ Ok sz n v ∧ ps sz u = a ∧ ps sz v = b ∧ A L R u v := by
    intro k a b p
    induction p with
    | one h => exact step_A w h
    | step h p ih =>
      obtain ⟨u, v, h1, h2, h3, h4, h5⟩ := step_A w h
      obtain ⟨u', v', g1, g2, g3, g4, g5⟩ := ih
      have e := ps_inj h2 g1 (h4.trans g3.symm)
      subst e
      exact ⟨u, v', h1, g2, h3, g4, w.tr h1.1 h2.1 g2.1 h5 g5⟩
  obtain ⟨u, v, h1, h2, h3, h4, h5⟩ := key p
  have e1 := ps_inj hx h1 h3.symm
  have e2 := ps_inj hy h2 h4.symm
  subst e1 e2
  exact h5
theorem rch_iff (w : Wv L R sz n) {x y : Sg} (hx : Ok sz n x) (hy : Ok sz n y) : Rch (steps L R sz (n - 1)) (ps sz x) (ps sz y) ↔ A L R x y := ⟨A_rch w hx hy, fun a => rch_A w a hx hy⟩
theorem step_lt (w : Wv L R sz n) {a b : Nat} (h : (a, b) ∈ steps L R sz (n - 1)) : a < off sz n ∧ b < off sz n := by
  obtain ⟨x, y, hx, hy, rfl, rfl, _⟩ := step_A w h
  exact ⟨ps_lt hx, ps_lt hy⟩
theorem path_bound (w : Wv L R sz n) {k a b : Nat} (p : Pth (steps L R sz (n - 1)) k a b) : k + 1 ≤ off sz n := by
  refine Pth.bound (lt := fun a b => ∃ x y, Ok sz n x ∧ Ok sz n y ∧ ps sz x = a ∧ ps sz y = b ∧ A L R x y) (fun a b h => ⟨step_A w h, step_lt w h⟩) (fun a b c ha hb hc h1 h2 => ?_) (fun a h => ?_) p
  · obtain ⟨x, y, hx, hy, rfl, rfl, a1⟩ := h1
    obtain ⟨y', z, hy', hz, e, rfl, a2⟩ := h2
    have e' := ps_inj hy' hy e
    subst e'
    exact ⟨x, z, hx, hz, rfl, rfl, w.tr hx.1 hy.1 hz.1 a1 a2⟩
  · obtain ⟨x, y, hx, hy, rfl, e, a1⟩ := h
    have e' := ps_inj hy hx e
    subst e'
    exact A.irr a1
theorem steps_len (w : Wv L R sz n) : off sz n ≤ (steps L R sz (n - 1)).length + 1 := by
  have key : ∀ m, m < n → off sz (m + 1) ≤ (steps L R sz m).length + 1 := by
    intro m
    induction m with
    | zero =>
      intro _
      show 0 + sz 0 ≤ 1 + 1
      rw [w.s0]
      decide
    | succ m ih =>
      intro h
      have z := ih (by omega)
      show off sz (m + 1) + sz (m + 1) ≤ (steps L R sz m ++ stepsOf L R sz (m + 1)).length + 1
      rw [List.length_append]
      have e : (stepsOf L R sz (m + 1)).length = sz (m + 1) - 1 + 2 := by
        unfold stepsOf
        simp
      rw [e]
      omega
  have n0 := w.n0
  have z := key (n - 1) (by omega)
  rw [Nat.sub_add_cancel n0] at z
  exact z
/-- the table tells the order -/
def Tells (L R : Nat → Sg) (sz : Nat → Nat) (n : Nat) (T : List Nat) : Prop := T.length = off sz n ∧ ∀ x y, Ok sz n x → Ok sz n y → (Bit T (ps sz x) (ps sz y) ↔ A L R x y)
/-- the table under way: sound, all paths of at most r steps -/
structure Under (L R : Nat → Sg) (sz : Nat → Nat) (n : Nat) (T : List Nat) (r : Nat) : Prop where
  len : T.length = off sz n
  snd : ∀ a b, Bit T a b → Rch (steps L R sz (n - 1)) a b
  upto : Upto (steps L R sz (n - 1)) T r
theorem Under.zero : Under L R sz n (List.replicate (off sz n) 0) 0 := by
  refine ⟨List.length_replicate, fun a b h => ?_, fun k a b p hk => ?_⟩
  · exfalso
    unfold Bit at h
    have e : (List.replicate (off sz n) 0).getD a 0 = 0 := by
      simp [List.getD, List.getElem?_replicate]
      split <;> rfl
    rw [e] at h
    simp at h
  · cases p <;> omega
theorem Under.fst (w : Wv L R sz n) {T : List Nat} {r : Nat} (u : Under L R sz n T r) : ∀ e ∈ steps L R sz (n - 1), e.1 < T.length := fun e he => by
  rw [u.len]
  exact (step_lt w (a := e.1) (b := e.2) he).1
theorem Under.lap (w : Wv L R sz n) {T : List Nat} {r : Nat} (u : Under L R sz n T r) : Under L R sz n (lap (steps L R sz (n - 1)) T) (r + 1) :=
  ⟨(lap_len _ _).trans u.len, lap_sound _ (fun _ h => h) (u.fst w) u.snd, u.upto.lap (u.fst w)⟩
theorem Under.done (w : Wv L R sz n) {T : List Nat} {r : Nat} (u : Under L R sz n T r) (h : off sz n ≤ r + 1) : Tells L R sz n T :=
  ⟨u.len, fun x y hx hy => ⟨fun b => A_rch w hx hy (u.snd _ _ b), fun a => by
    obtain ⟨k, p⟩ := rch_A w a hx hy
    have z := path_bound w p
    exact u.upto k _ _ p (by omega)⟩⟩
theorem Under.still (w : Wv L R sz n) {T : List Nat} {r : Nat} (u : Under L R sz n T r) (h : ∀ a b c, (a, b) ∈ steps L R sz (n - 1) → c = b ∨ Bit T b c → Bit T a c) : Tells L R sz n T :=
  ⟨u.len, fun x y hx hy => ⟨fun b => A_rch w hx hy (u.snd _ _ b), fun a => still_all (u.fst w) h (rch_A w a hx hy)⟩⟩
end
end Tl

namespace Dk
open PySem PySem.Spec PyProof.Rows L2
/-! ### what never runs -/
def tNv : TE := fun _ _ _ => False
theorem pe_never {X : Cx} {e : Expr} : PE X e tNv := ⟨fun _ _ _ _ _ _ h => h.elim⟩
/-! ### keywords alone -/
section
variable {X : Cx} {CX : CXT} {k : Nat} {f : Addr} {fd : FuncData} {ps ks : List Str} {sp : Sp} {E : XK} {x : Str} {p pos : Pos} {kws : List Keyword} {tk : TA} {g : List Value → List Value → List Value} {gV : List V → List V → List V}
def tCallK0 (sp : Sp) (gV : List V → List V → List V) (E : XK) (tk : TA) : TE := fun σ H Q => tk σ H fun zs H2 => sp (gV [] zs) H2 Q E
theorem pe_callK0 (F : FnOk X.prog X.w X.K X.mg X.base CX k f fd ps sp) (hr : Room k X.A) (hg : Gl X x) (hm : X.mg x = some (.ref f)) (hk : PySem.W.keepIn X.K (.ref f) = true) (hb : KBinds X.K fd ps ks g gV) (hx : Passes CX X E)
    (hkw : PK X kws tk) (hall : (backToKw pos (keywordEach kws X.env)).all (·.1.isSome) = true := by rfl) (hks : (backToKw pos (keywordEach kws X.env)).filterMap (·.1) = ks := by rfl)
    (hdb : (x == ("__debug__" : Str)) = false := by decide)
    (hpl : ((backTo pos (starEach [] X.env)).any (·.1) || (backToKw pos (keywordEach kws X.env)).any (·.1.isNone)) = false := by rfl) :
    PE X (.Call (.Name x p) [] kws pos) (tCallK0 sp gV E tk) := by
  refine ⟨fun pins s σ H Q I h => ?_⟩
  refine wpAny_Call_Name_kw (ld_glob I hg hm ?_ hdb)
  refine PySem.W.callWith_KW0 (h₀ := X.base) I.ok.mod.kin hk hall (thn (hkw.run pos pins s σ H _ I h) fun ws s2 ⟨zs, H2, I2, rz, q2⟩ => ⟨I2.kIn, ?_⟩) hpl
  rw [hks]
  exact run_fnk (us := []) (vs := []) F hr hb hx I2 .nil rz q2
theorem r_callK0 {σ : L2.St} {H : Hp} {Q : VK} (h : tk σ H fun zs H2 => sp (gV [] zs) H2 Q E) : tCallK0 sp gV E tk σ H Q := h
end
/-- three values put in another order -/
def p201 {α : Type} : List α → List α → List α
  | [], [a, b, c] => [b, c, a]
  | _, _ => []
def p210 {α : Type} : List α → List α → List α
  | [], [a, b, c] => [c, b, a]
  | _, _ => []
def p120 {α : Type} : List α → List α → List α
  | [], [a, b, c] => [c, a, b]
  | _, _ => []
theorem p201_rel {vs zs : List V} {us ws : List Value} (r : Vals vs us) (q : Vals zs ws) : Vals (p201 vs zs) (p201 us ws) := by
  cases r with
  | cons => exact .nil
  | nil => rcases q with _ | ⟨a, _ | ⟨b, _ | ⟨c, _ | _⟩⟩⟩
           · exact .nil
           · exact .nil
           · exact .nil
           · exact .cons b (.cons c (.cons a .nil))
           · exact .nil
theorem p210_rel {vs zs : List V} {us ws : List Value} (r : Vals vs us) (q : Vals zs ws) : Vals (p210 vs zs) (p210 us ws) := by
  cases r with
  | cons => exact .nil
  | nil => rcases q with _ | ⟨a, _ | ⟨b, _ | ⟨c, _ | _⟩⟩⟩
           · exact .nil
           · exact .nil
           · exact .nil
           · exact .cons c (.cons b (.cons a .nil))
           · exact .nil
theorem p120_rel {vs zs : List V} {us ws : List Value} (r : Vals vs us) (q : Vals zs ws) : Vals (p120 vs zs) (p120 us ws) := by
  cases r with
  | cons => exact .nil
  | nil => rcases q with _ | ⟨a, _ | ⟨b, _ | ⟨c, _ | _⟩⟩⟩
           · exact .nil
           · exact .nil
           · exact .nil
           · exact .cons c (.cons a (.cons b .nil))
           · exact .nil
def rAbs : List V → Hp → VK → Prop := fun xs H Q => ∃ i, xs = [.int i] ∧ Q (.int (if i < 0 then -i else i)) H
theorem call_absU {X : Cx} : CallR X (.builtin "abs") rAbs := call_abs
/-! ### steps -/
section
variable {K : PySem.W.Frag} {σ : L2.St} {H H' : Hp} {Q : VK} {v x y : V} {i j : Int}
theorem r_bool {b : Bool} (q : Q (.int (if b then 1 else 0)) H) : rInt1 [.bl b] H Q := .inr ⟨b, rfl, q⟩
theorem r_abs (q : Q (.int (i.natAbs : Nat)) H) : rAbs [.int i] H Q := ⟨i, rfl, by
  have e : (if i < 0 then -i else i) = (i.natAbs : Int) := by split <;> omega
  rw [e]
  exact q⟩
theorem r_catT {p q : Addr} {xs ys : List V} (hp : SqT K H p xs) (hq : SqT K H q ys) (nx : xs ≠ []) (ny : ys ≠ []) (hz : xs.length + ys.length ≤ 1000) (k : ∀ l, H l = none → Q (.ref l) (upd H l (.tup (xs ++ ys)))) : rAddU K (.ref p) (.ref q) H Q :=
  .inr (.inr (.inr ⟨p, q, xs, ys, rfl, rfl, hp, hq, by rw [sizeLine_eq]; omega, fun z => absurd z nx, fun _ z => absurd z ny, fun _ _ => k⟩))
theorem r_pop0 {p : Addr} {xs : List V} (h : H p = some (.lst (x :: xs))) (q : Q x (upd H p (.lst xs))) : rPopAt (.ref p) [.int 0] H Q :=
  ⟨p, x :: xs, 0, 0, x, rfl, rfl, h, by decide, by decide, by
    show (if _ then _ else _) = _
    simp, rfl, q⟩
theorem r_isiT2 {a n m : String} {b c : Bool} {tp : Addr} (hT : H tp = some (.tup [.ty n, .ty m])) (ty : TyX K H x (.type a)) (e1 : kitB a n = some b) (e2 : kitB a m = some c) (q : Q (.bl (b || c)) H) : rIsiT K [x, .ref tp] H Q := by
  refine ⟨x, tp, [.ty n, .ty m], .type a, [.type n, .type m], b || c, rfl, hT, .cons (.ty n) (.cons (.ty m) .nil), ty, ?_, q⟩
  refine kitAny_cons (kit_ty e1) (r := b || c) (fun hb => ?_) (fun hb => by rw [hb]; rfl)
  subst hb
  refine kitAny_cons (kit_ty e2) (fun hc => ?_) (fun hc => by rw [hc]; rfl)
  subst hc
  exact kitAny_nil
end
theorem r_eqP {x y : V} {H : Hp} {Q : VK} (h : scal x y = true) (q : Q (.bl (decide (x = y))) H) : rEq x y H Q := ⟨h, q⟩
theorem r_gunl {K : PySem.W.Frag} {σ : L2.St} {H : Hp} {N : L2.St → Hp → Prop} {vs : List V} {u : TGs} {n : Nat} {a : Addr} (h : SqL K H a vs) (hl : vs.length = n) (k : u vs σ H N) : gUnl K n u (.ref a) σ H N := ⟨a, vs, rfl, h, hl, k⟩
theorem r_slT {K : PySem.W.Frag} {H : Hp} {Q : VK} {p : Addr} {xs : List V} {n : Nat} (h : SqT K H p xs) (k1 : xs.length ≤ n → Q (.ref p) H) (k2 : ∀ l, H l = none → Q (.ref l) (upd H l (.tup (xs.take n)))) : rSlU K (.ref p) none (some (n : Int)) H Q := by
  refine .inr (.inr ⟨p, xs, rfl, h, fun z => k1 ?_, fun _ l hl => ?_⟩)
  · have e := z.2
    rw [HT.sIx_nat] at e
    omega
  · rw [cutV_to]
    exact k2 l hl
theorem cutV_from (xs : List V) (n : Nat) : cutV xs (some (n : Int)) none = xs.drop n := by
  unfold cutV
  rw [HT.sIx_nat, HT.sIx_none]
  by_cases h : n ≤ xs.length
  · rw [Nat.min_eq_left h, List.take_of_length_le (by rw [List.length_drop]; omega)]
  · rw [Nat.min_eq_right (by omega), Nat.sub_self, List.take_zero, List.drop_eq_nil_of_le (by omega)]
theorem r_break {σ : L2.St} {H : Hp} {D : Ends} (q : D.bk σ H) : tBreak D σ H := q
theorem r_yes {σ : L2.St} {H : Hp} {QB : Bool → Hp → Prop} (q : QB true H) : tYes σ H QB := q
theorem _root_.L2.Room.units65 {k : Nat} {A : Around} (r : L2.Room k A) : A.units + 65 < cLine := by
  have := r.un
  omega
theorem r_lcRo {ta : TA} {g : TG} {tt : TT} {te : TE} {vs : List Nat} {σ : L2.St} {H : Hp} {Q : VK} (h : ta σ H fun us H1 => ∃ j : Int, us = [.int j] ∧ -(2 ^ 62) ≤ j ∧ j < 2 ^ 62 ∧ ∀ D, H1 D = none → ∃ W : Nat → Nat → Hp → Prop, (∃ m, W 0 m (upd H1 D (.lst []))) ∧ ∀ i m H, W i m H →
  ((Itr 0 j.toNat).stop i H ∧ Q (.ref D) H) ∨ ((Itr 0 j.toNat).go i H ∧ ∃ Nx : Hp → Prop, (∀ H', Nx H' → ∃ m', m' < m ∧ W (i + 1) m' H') ∧ ∀ x H', (Itr 0 j.toNat).yld i H x H' → g x (wipe σ vs) H' fun σ2 H2 => wipe σ2 vs = wipe σ vs ∧ tt σ2 H2 fun b H3 =>
    if b = true then te σ2 H3 fun y H4 => ∃ acc, H4 D = some (.lst acc) ∧ acc.length < sizeLine ∧ Nx (upd H4 D (.lst (acc ++ [y]))) else Nx H3)) : tLc (iRng1 ta) g tt te vs σ H Q := h
/-- [.. for x in range(n)] -/
theorem l_lcR {n : Int} {g : TG} {tt : TT} {te : TE} {vs : List Nat} {σ : L2.St} {H1 : Hp} {Qd : Addr → Hp → Prop} (n0 : -1000000 ≤ n) (n1 : n ≤ 1000000) (Pv : Addr → Nat → Hp → Prop) (h0 : ∀ D, H1 D = none → Pv D 0 (upd H1 D (.lst [])))
    (hs : ∀ D (i : Nat) H, H1 D = none → (i : Int) < n → Pv D i H → g (.int (i : Nat)) (wipe σ vs) H fun σ2 H2 => wipe σ2 vs = wipe σ vs ∧ tt σ2 H2 fun b H3 =>
      if b = true then te σ2 H3 fun y H4 => ∃ acc, H4 D = some (.lst acc) ∧ acc.length < sizeLine ∧ Pv D (i + 1) (upd H4 D (.lst (acc ++ [y]))) else Pv D (i + 1) H3) (hd : ∀ D H, H1 D = none → Pv D n.toNat H → Qd D H) :
    ∃ j : Int, [V.int n] = [.int j] ∧ -(2 ^ 62) ≤ j ∧ j < 2 ^ 62 ∧ ∀ D, H1 D = none → ∃ W : Nat → Nat → Hp → Prop, (∃ m, W 0 m (upd H1 D (.lst []))) ∧ ∀ i m H, W i m H →
  ((Itr 0 j.toNat).stop i H ∧ Qd D H) ∨ ((Itr 0 j.toNat).go i H ∧ ∃ Nx : Hp → Prop, (∀ H', Nx H' → ∃ m', m' < m ∧ W (i + 1) m' H') ∧ ∀ x H', (Itr 0 j.toNat).yld i H x H' → g x (wipe σ vs) H' fun σ2 H2 => wipe σ2 vs = wipe σ vs ∧ tt σ2 H2 fun b H3 =>
    if b = true then te σ2 H3 fun y H4 => ∃ acc, H4 D = some (.lst acc) ∧ acc.length < sizeLine ∧ Nx (upd H4 D (.lst (acc ++ [y]))) else Nx H3) := by
  refine ⟨n, rfl, by omega, by omega, fun D hD => lc_range (lo := 0) (Pv D) (h0 D hD) (fun i H hi p => ?_) fun H p => hd D H hD p⟩
  have z := hs D i H hD (by omega) p
  rw [Int.zero_add]
  exact z
/-- for c in range(1, n) -/
theorem l_R1n {n : Nat} {g : TG} {tb : TS} {σ : L2.St} {H : Hp} {D : Ends} (h1 : 1 ≤ n) (h2 : n ≤ 1000000) (Pv : Nat → L2.St → Hp → Prop) (p0 : Pv 1 σ H)
    (ht : ∀ (c : Nat) σ H, 1 ≤ c → c < n → Pv c σ H → g (.int (c : Nat)) σ H fun σ2 H2 => tb { D with nx := Pv (c + 1), ct := Pv (c + 1), bk := D.nx } σ2 H2) (hd : ∀ σ H, Pv n σ H → D.nx σ H) :
    ∃ i j : Int, [V.int 1, V.int (n : Nat)] = [.int i, .int j] ∧ (-(2 ^ 62) ≤ i ∧ i < 2 ^ 62 ∧ -(2 ^ 62) ≤ j ∧ j < 2 ^ 62) ∧ LoopW (Itr i (j - i).toNat) g tb D σ H := by
  refine ⟨1, n, rfl, ⟨by omega, by omega, by omega, by omega⟩, for_range (fun i => Pv (i + 1)) p0 (fun i σ H hi p => ?_) fun σ H p => hd σ H ?_⟩
  · have z := ht (i + 1) σ H (by omega) (by omega) p
    rw [show (1 : Int) + (i : Nat) = ((i + 1 : Nat) : Int) by omega]
    exact z
  · have e : ((n : Int) - 1).toNat + 1 = n := by omega
    rw [e] at p
    exact p
theorem r_lcLo {K : PySem.W.Frag} {tl : TE} {g : TG} {tt : TT} {te : TE} {vs : List Nat} {σ : L2.St} {H : Hp} {Q : VK} (h : tl σ H fun x H1 => ∃ a, x = .ref a ∧ (∃ xs, SqL K H1 a xs) ∧ ∀ D, H1 D = none → ∃ W : Nat → Nat → Hp → Prop, (∃ m, W 0 m (upd H1 D (.lst []))) ∧ ∀ i m H, W i m H →
  ((Itl K a).stop i H ∧ Q (.ref D) H) ∨ ((Itl K a).go i H ∧ ∃ Nx : Hp → Prop, (∀ H', Nx H' → ∃ m', m' < m ∧ W (i + 1) m' H') ∧ ∀ x H', (Itl K a).yld i H x H' → g x (wipe σ vs) H' fun σ2 H2 => wipe σ2 vs = wipe σ vs ∧ tt σ2 H2 fun b H3 =>
    if b = true then te σ2 H3 fun y H4 => ∃ acc, H4 D = some (.lst acc) ∧ acc.length < sizeLine ∧ Nx (upd H4 D (.lst (acc ++ [y]))) else Nx H3)) : tLc (iList K tl) g tt te vs σ H Q := h
theorem l_lcL {K : PySem.W.Frag} {a : Addr} {xs : List V} {g : TG} {tt : TT} {te : TE} {vs : List Nat} {σ : L2.St} {H1 : Hp} {Qd : Addr → Hp → Prop} (hs0 : SqL K H1 a xs) (Pv : Addr → Nat → Hp → Prop) (h0 : ∀ D, H1 D = none → Pv D 0 (upd H1 D (.lst []))) (hl : ∀ D i H, Pv D i H → SqL K H a xs)
    (hs : ∀ D (i : Nat) x H, H1 D = none → xs[i]? = some x → Pv D i H → g x (wipe σ vs) H fun σ2 H2 => wipe σ2 vs = wipe σ vs ∧ tt σ2 H2 fun b H3 =>
      if b = true then te σ2 H3 fun y H4 => ∃ acc, H4 D = some (.lst acc) ∧ acc.length < sizeLine ∧ Pv D (i + 1) (upd H4 D (.lst (acc ++ [y]))) else Pv D (i + 1) H3) (hd : ∀ D H, H1 D = none → Pv D xs.length H → Qd D H) :
    ∃ b, V.ref a = .ref b ∧ (∃ xs, SqL K H1 b xs) ∧ ∀ D, H1 D = none → ∃ W : Nat → Nat → Hp → Prop, (∃ m, W 0 m (upd H1 D (.lst []))) ∧ ∀ i m H, W i m H →
  ((Itl K b).stop i H ∧ Qd D H) ∨ ((Itl K b).go i H ∧ ∃ Nx : Hp → Prop, (∀ H', Nx H' → ∃ m', m' < m ∧ W (i + 1) m' H') ∧ ∀ x H', (Itl K b).yld i H x H' → g x (wipe σ vs) H' fun σ2 H2 => wipe σ2 vs = wipe σ vs ∧ tt σ2 H2 fun b H3 =>
    if b = true then te σ2 H3 fun y H4 => ∃ acc, H4 D = some (.lst acc) ∧ acc.length < sizeLine ∧ Nx (upd H4 D (.lst (acc ++ [y]))) else Nx H3) :=
  ⟨a, rfl, ⟨xs, hs0⟩, fun D hD => lc_list (Pv D) (h0 D hD) (fun i H _ p => hl D i H p) (fun i x H hx p => hs D i x H hD hx p) fun H p => hd D H hD p⟩
/-- a test whose outcome does not matter -/
theorem any_test {tt : TT} {σ : L2.St} {H : Hp} {QB : Bool → Hp → Prop} {S : Bool → Hp → Prop} (h : ∀ QB : Bool → Hp → Prop, (∀ c H1, S c H1 → QB c H1) → tt σ H QB) (k : ∀ c H1, S c H1 → QB c H1) : tt σ H QB := h QB k
theorem any_val {te : TE} {σ : L2.St} {H : Hp} {Q : VK} {S : V → Hp → Prop} (h : ∀ Q : VK, (∀ v H1, S v H1 → Q v H1) → te σ H Q) (k : ∀ v H1, S v H1 → Q v H1) : te σ H Q := h Q k
/-! ### bits -/
theorem or_val (x b y : Nat) : Builtin.bitOr (Builtin.bitOr (x : Int) (1 * 2 ^ ((b : Int)).toNat)) (y : Int) = ((x ||| 1 <<< b ||| y : Nat) : Int) := by
  have e : (1 * 2 ^ ((b : Int)).toNat : Int) = ((1 <<< b : Nat) : Int) := by
    rw [Int.toNat_natCast, Nat.one_shiftLeft]
    push_cast
    omega
  have e1 : Builtin.bitOr (x : Int) ((1 <<< b : Nat) : Int) = ((x ||| 1 <<< b : Nat) : Int) := by
    rw [Bits.bitOr_pp (Int.natCast_nonneg _) (Int.natCast_nonneg _), Int.toNat_natCast, Int.toNat_natCast]
  rw [e, e1, Bits.bitOr_pp (Int.natCast_nonneg _) (Int.natCast_nonneg _), Int.toNat_natCast, Int.toNat_natCast]
theorem bit_val (x k : Nat) : decide (V.int (Builtin.bitAnd ((x : Int) / 2 ^ ((k : Int)).toNat) 1) = V.int 1) = x.testBit k := by
  have e : Builtin.bitAnd ((x : Int) / 2 ^ ((k : Int)).toNat) 1 = (x : Int) / 2 ^ k % 2 := by
    have z := Bits.bit_at (x := (x : Int)) k
    have hp : (0 : Int) ≤ 2 ^ k := Int.pow_nonneg (by decide)
    rw [Int.fdiv_eq_ediv_of_nonneg _ hp] at z
    rw [Int.toNat_natCast]
    exact z
  rw [e, Bool.eq_iff_iff, decide_eq_true_iff, Nat.testBit_eq_decide_div_mod_eq, decide_eq_true_iff]
  have e2 : (x : Int) / 2 ^ k % 2 = ((x / 2 ^ k % 2 : Nat) : Int) := by push_cast; rfl
  rw [e2]
  constructor
  · intro h
    have := V.int.inj h
    omega
  · intro h
    rw [h]
    rfl
/-! ### the box of the draws: a number and a list of heaps -/
def M31 : Int := 2147483629
structure Bx (H : Hp) (b h : Addr) : Prop where
  ne : b ≠ h
  ex : ∃ (z : Int) (ns : List Int), H b = some (.lst [.int z, .ref h]) ∧ 0 ≤ z ∧ z < M31 ∧ H h = some (.lst (ns.map V.int)) ∧ ns.length ≤ 63
structure Dr2 (b h : Addr) (H H' : Hp) : Prop where
  hh : ∀ x o, x ≠ b → x ≠ h → H x = some o → H' x = some o
  st : Bx H' b h
abbrev A2 (b h : Addr) : Addr → Prop := fun x => x = b ∨ x = h
structure W2 (b h : Addr) (G H : Hp) : Prop where
  g : Ex G H
  nb : G b = none
  nh : G h = none
  st : Bx H b h
section
variable {A : Addr → Prop} {b h p : Addr} {G H G1 H1 H2 : Hp} {o : HO}
theorem Bx.gb (s : Bx H b h) : ∃ o, H b = some o := by
  obtain ⟨_, z, ns, h1, _⟩ := s
  exact ⟨_, h1⟩
theorem Bx.gh (s : Bx H b h) : ∃ o, H h = some o := by
  obtain ⟨_, z, ns, _, _, _, h1, _⟩ := s
  exact ⟨_, h1⟩
theorem Bx.up (s : Bx H b h) (e : Ex H H1) : Bx H1 b h := by
  obtain ⟨n, z, ns, h1, h2, h3, h4, h5⟩ := s
  exact ⟨n, z, ns, e _ _ h1, h2, h3, e _ _ h4, h5⟩
theorem Bx.nb (s : Bx H b h) (hp : H p = none) : p ≠ b := fun z => by
  obtain ⟨o, e⟩ := s.gb
  rw [← z, hp] at e
  cases e
theorem Bx.nh (s : Bx H b h) (hp : H p = none) : p ≠ h := fun z => by
  obtain ⟨o, e⟩ := s.gh
  rw [← z, hp] at e
  cases e
theorem Bx.put (s : Bx H b h) (h1 : p ≠ b) (h2 : p ≠ h) : Bx (upd H p o) b h := by
  obtain ⟨n, z, ns, e1, e2, e3, e4, e5⟩ := s
  exact ⟨n, z, ns, by rw [upd_ne (Ne.symm h1)]; exact e1, e2, e3, by rw [upd_ne (Ne.symm h2)]; exact e4, e5⟩
theorem Bx.na (s : Bx H b h) (hp : H p = none) : ¬ A2 b h p := fun z => z.elim (s.nb hp) (s.nh hp)
theorem Dr2.refl (s : Bx H b h) : Dr2 b h H H := ⟨fun _ _ _ _ e => e, s⟩
theorem Dr2.trans (x : Dr2 b h H H1) (y : Dr2 b h H1 H2) : Dr2 b h H H2 := ⟨fun u o n m e => y.hh u o n m (x.hh u o n m e), y.st⟩
theorem Dr2.ex (s : Bx H b h) (e : Ex H H1) : Dr2 b h H H1 := ⟨fun u o _ _ q => e u o q, s.up e⟩
theorem Dr2.then (x : Dr2 b h H H1) (e : Ex H1 H2) : Dr2 b h H H2 := x.trans (.ex x.st e)
theorem Dr2.new (x : Dr2 b h H H1) (hp : H1 p = none) : Dr2 b h H (upd H1 p o) := x.then (Same.new (Same.refl H1) hp)
theorem Dr2.mut (x : Dr2 b h H H1) (hp : H p = none) (h1 : p ≠ b) (h2 : p ≠ h) : Dr2 b h H (upd H1 p o) :=
  ⟨fun u q n m e => by rw [upd_ne (ne_of_none e hp)]; exact x.hh u q n m e, x.st.put h1 h2⟩
theorem Dr2.fresh (x : Dr2 b h H H1) (hp : H1 p = none) : H p = none := by
  cases e : H p with
  | none => rfl
  | some o =>
    rw [x.hh p o (x.st.nb hp) (x.st.nh hp) e] at hp
    cases hp
theorem Dr2.gr (g : Ex G H) (nb : G b = none) (nh : G h = none) (s : Bx H b h) (d : Dr2 b h H H1) : Gr (A2 b h) G H G H1 where
  gg := Same.refl G
  gh := fun u x e => d.hh u x (ne_of_none e nb) (ne_of_none e nh) (g u x e)
  hh := fun u x z e => d.hh u x (fun q => z (.inl q)) (fun q => z (.inr q)) e
  th := fun u x e => by
    by_cases h1 : u = b
    · rw [h1]
      exact d.st.gb
    by_cases h2 : u = h
    · rw [h2]
      exact d.st.gh
    exact ⟨x, d.hh u x h1 h2 e⟩
  nw := fun u x e z => z
theorem W2.nb1 (x : W2 b h G H) (t : Gr A G H G1 H1) : G1 b = none := by
  obtain ⟨o, e⟩ := x.st.gb
  exact t.nw b _ e x.nb
theorem W2.nh1 (x : W2 b h G H) (t : Gr A G H G1 H1) : G1 h = none := by
  obtain ⟨o, e⟩ := x.st.gh
  exact t.nw h _ e x.nh
theorem W2.step (x : W2 b h G H) (t : Gr (A2 b h) G H G1 H1) (s : Bx H1 b h) : W2 b h G1 H1 := ⟨t.gh, x.nb1 t, x.nh1 t, s⟩
theorem W2.pure (x : W2 b h G H) (t : Gr A0 G H G1 H1) : W2 b h G1 H1 := ⟨t.gh, x.nb1 t, x.nh1 t, x.st.up t.same⟩
theorem W2.ex (x : W2 b h G H) (e : Ex H H1) : W2 b h G H1 := ⟨x.g.trans e, x.nb, x.nh, x.st.up e⟩
theorem W2.gdr (x : W2 b h G H) (d : Dr2 b h H H1) : Gr (A2 b h) G H G H1 := Dr2.gr x.g x.nb x.nh x.st d
theorem W2.dr (x : W2 b h G H) (d : Dr2 b h H H1) : W2 b h G H1 := x.step (x.gdr d) d.st
end
def spPick : Sp := fun vs H Q _ => ∃ (b h : Addr) (n : Int), vs = [.ref b, .int n] ∧ Bx H b h ∧ 0 < n ∧ n ≤ 1000 ∧ ∀ (d : Int) H', 0 ≤ d → d < n → Dr2 b h H H' → Q (.int d) H'
def spDraws (K : PySem.W.Frag) : Sp := fun vs H Q _ => ∃ (s : Addr) (ns : List Int), vs = [.ref s] ∧ SqL K H s (ns.map V.int) ∧ ns.length ≤ 63 ∧ ∀ b h H', Ex H H' → H b = none → H h = none → Bx H' b h → Q (.ref b) H'
def spSay : Sp := fun vs H Q _ => ∃ (b h : Addr) (n : Int), vs = [.ref b, .int n] ∧ Bx H b h ∧ 0 < n ∧ n ≤ 100 ∧ ∀ (t : Str) H', 0 < t.length → (t.length : Int) ≤ n → Dr2 b h H H' → Q (.str t) H'
theorem nat31 {z : Int} (h0 : 0 ≤ z) (h : z < M31) : z.natAbs < 2 ^ 31 := by
  unfold M31 at h
  have e : (2 : Nat) ^ 31 = 2147483648 := by decide
  omega
theorem mix31 (e : Int) : 0 ≤ e % M31 ∧ e % M31 < M31 := ⟨Int.emod_nonneg _ (by decide), Int.emod_lt_of_pos _ (by decide)⟩
/-! ### signs -/
def Tk (H H' : Hp) : Prop := ∀ p xs, H p = some (.tup xs) → H' p = some (.tup xs)
/-- a tuple, of the heap or of the written part -/
def KT (K : PySem.W.Frag) (a : Addr) (xs : List V) : Prop := ∃ (o : Obj) (its : Array Value) (n : Nat), K.lookup a = some o ∧ o.cls = .type "tuple" ∧ o.data = .seq its n ∧ its.size ≤ sizeLine ∧ Vals xs its.toList
def Tu (K : PySem.W.Frag) (H : Hp) (a : Addr) (xs : List V) : Prop := H a = some (.tup xs) ∨ KT K a xs
theorem Tu.sq {K : PySem.W.Frag} {H : Hp} {a : Addr} {xs : List V} (h : Tu K H a xs) : SqT K H a xs := h.elim (fun z => sqT z) fun z => .inr z
theorem Tu.tk {K : PySem.W.Frag} {H H' : Hp} {a : Addr} {xs : List V} (t : Tk H H') (h : Tu K H a xs) : Tu K H' a xs := h.imp (fun z => t _ _ z) id
theorem Tu.up {K : PySem.W.Frag} {H H' : Hp} {a : Addr} {xs : List V} (e : Ex H H') (h : Tu K H a xs) : Tu K H' a xs := h.imp (fun z => e _ _ z) id
/-- a sign's two numbers; only signs of the border may be of the written part -/
def Ts (K : PySem.W.Frag) (H : Hp) (a : Addr) (x : Tl.Sg) : Prop := H a = some (.tup [.int (x.1 : Nat), .int (x.2 : Nat)]) ∨ (x.1 = 0 ∧ KT K a [.int (x.1 : Nat), .int (x.2 : Nat)])
theorem Ts.sq {K : PySem.W.Frag} {H : Hp} {a : Addr} {x : Tl.Sg} (h : Ts K H a x) : SqT K H a [.int (x.1 : Nat), .int (x.2 : Nat)] := h.elim (fun z => sqT z) fun z => .inr z.2
theorem Ts.tu {K : PySem.W.Frag} {H : Hp} {a : Addr} {x : Tl.Sg} (h : Ts K H a x) : Tu K H a [.int (x.1 : Nat), .int (x.2 : Nat)] := h.elim (fun z => .inl z) fun z => .inr z.2
theorem Ts.tk {K : PySem.W.Frag} {H H' : Hp} {a : Addr} {x : Tl.Sg} (t : Tk H H') (h : Ts K H a x) : Ts K H' a x := h.imp (fun z => t _ _ z) id
theorem Ts.up {K : PySem.W.Frag} {H H' : Hp} {a : Addr} {x : Tl.Sg} (e : Ex H H') (h : Ts K H a x) : Ts K H' a x := h.imp (fun z => e _ _ z) id
theorem Ts.own {K : PySem.W.Frag} {H : Hp} {a : Addr} {x : Tl.Sg} (h : Ts K H a x) (h0 : 0 < x.1) : H a = some (.tup [.int (x.1 : Nat), .int (x.2 : Nat)]) := h.elim id fun z => absurd z.1 (by omega)
def SgV (K : PySem.W.Frag) (G : Hp) (v : V) (x : Tl.Sg) : Prop := ∃ p, v = .ref p ∧ Ts K G p x
theorem SgV.up {K : PySem.W.Frag} {G G' : Hp} {v : V} {x : Tl.Sg} (e : Ex G G') (h : SgV K G v x) : SgV K G' v x := h.imp fun _ z => ⟨z.1, z.2.up e⟩
abbrev sgD (x : Tl.Sg) : PyData := .tuple [.int (x.1 : Nat), .int (x.2 : Nat)]
theorem SgV.dp {K : PySem.W.Frag} {G : Hp} {v : V} {x : Tl.Sg} (h : SgV K G v x) : Dp K G v (sgD x) := by
  obtain ⟨p, rfl, hp⟩ := h
  exact .tup hp.sq (.cons (.int _) (.cons (.int _) .nil))
theorem sg_shaped (x : Tl.Sg) : SeqAt.shaped (sgD x) = true := by
  rfl
theorem sg_eqv (x y : Tl.Sg) : PyData.eqv (sgD x) (sgD y) = decide (x = y) := by
  obtain ⟨a, b⟩ := x
  obtain ⟨c, d⟩ := y
  show (PyData.eqv (.int a) (.int c) && (PyData.eqv (.int b) (.int d) && true)) = _
  show (((a : Int) == c) && (((b : Int) == d) && true)) = _
  rw [Bool.eq_iff_iff]
  simp
  omega
theorem r_eqSg {K : PySem.W.Frag} {H : Hp} {Q : VK} {v w : V} {x y : Tl.Sg} (h1 : SgV K H v x) (h2 : SgV K H w y) (q : Q (.bl (decide (x = y))) H) : rEqU K v w H Q :=
  .inr ⟨_, _, h1.dp, h2.dp, sg_shaped x, sg_shaped y, by rw [sg_eqv]; exact q⟩
/-! ### two lists side by side -/
inductive P2 {α β : Type} (R : α → β → Prop) : List α → List β → Prop where
  | nil : P2 R [] []
  | cons {a : α} {b : β} {l : List α} {m : List β} (h : R a b) (t : P2 R l m) : P2 R (a :: l) (b :: m)
section
variable {α β : Type} {R S : α → β → Prop} {l l' : List α} {m m' : List β}
theorem P2.len (h : P2 R l m) : l.length = m.length := by
  induction h with
  | nil => rfl
  | cons h t ih => rw [List.length_cons, List.length_cons, ih]
theorem P2.get (h : P2 R l m) : ∀ {i : Nat} {a : α}, l[i]? = some a → ∃ b, m[i]? = some b ∧ R a b := by
  induction h with
  | nil => intro i a e; simp at e
  | @cons a b l m h t ih =>
    intro i x e
    cases i with
    | zero => exact ⟨b, rfl, by simp at e; exact e ▸ h⟩
    | succ i =>
      simp at e
      simpa using ih e
theorem P2.get' (h : P2 R l m) : ∀ {i : Nat} {b : β}, m[i]? = some b → ∃ a, l[i]? = some a ∧ R a b := by
  induction h with
  | nil => intro i a e; simp at e
  | @cons a b l m h t ih =>
    intro i x e
    cases i with
    | zero => exact ⟨a, rfl, by simp at e; exact e ▸ h⟩
    | succ i =>
      simp at e
      simpa using ih e
theorem P2.imp (h : P2 R l m) (k : ∀ a b, R a b → S a b) : P2 S l m := by
  induction h with
  | nil => exact .nil
  | cons h t ih => exact .cons (k _ _ h) ih
theorem P2.app (h : P2 R l m) (h' : P2 R l' m') : P2 R (l ++ l') (m ++ m') := by
  induction h with
  | nil => exact h'
  | cons h t ih => exact .cons h ih
theorem P2.snoc {a : α} {b : β} (h : P2 R l m) (k : R a b) : P2 R (l ++ [a]) (m ++ [b]) := h.app (.cons k .nil)
theorem P2.take (h : P2 R l m) : ∀ n, P2 R (l.take n) (m.take n) := by
  induction h with
  | nil => intro n; simp; exact .nil
  | cons h t ih =>
    intro n
    cases n with
    | zero => exact .nil
    | succ n => exact .cons h (ih n)
theorem P2.drop (h : P2 R l m) : ∀ n, P2 R (l.drop n) (m.drop n) := by
  induction h with
  | nil => intro n; simp; exact .nil
  | cons h t ih =>
    intro n
    cases n with
    | zero => exact .cons h t
    | succ n => exact ih n
end
theorem P2.join {α β γ : Type} {R : α → γ → Prop} {S : β → γ → Prop} {U : α → β → Prop} {l : List α} {m : List β} {n : List γ} (h : P2 R l n) (k : ∀ a b c, R a c → S b c → U a b) (g : P2 S m n) : P2 U l m := by
  induction h generalizing m with
  | nil => cases g; exact .nil
  | cons h t ih => cases g with
    | cons h' t' => exact .cons (k _ _ _ h h') (ih t')
/-- a list of signs -/
abbrev SgL (K : PySem.W.Frag) (G : Hp) : List V → List Tl.Sg → Prop := P2 (SgV K G)
theorem SgL.up {K : PySem.W.Frag} {G G' : Hp} {l : List V} {m : List Tl.Sg} (e : Ex G G') (h : SgL K G l m) : SgL K G' l m := h.imp fun _ _ z => z.up e
theorem SgL.dps {K : PySem.W.Frag} {G : Hp} {l : List V} {m : List Tl.Sg} (h : SgL K G l m) : DpAll K G l (m.map sgD) := by
  induction h with
  | nil => exact .nil
  | cons h t ih => exact .cons h.dp ih
theorem sgs_shaped (m : List Tl.Sg) : SeqAt.shaped (.list (m.map sgD)) = true := by
  have key : PyData.canLayAll0 (m.map sgD) = true ∧ PyData.depthAll (m.map sgD) ≤ 2 := by
    induction m with
    | nil => exact ⟨rfl, by decide⟩
    | cons x r ih =>
      refine ⟨?_, ?_⟩
      · show ((sgD x).canLay0 && PyData.canLayAll0 (r.map sgD)) = true
        rw [ih.1]
        rfl
      · show max (sgD x).depth (PyData.depthAll (r.map sgD)) ≤ 2
        have e : (sgD x).depth ≤ 2 := by simp [sgD, PyData.depth, PyData.depthAll]
        omega
  show (PyData.canLayAll0 (m.map sgD) && decide (_ ≤ 64)) = true
  rw [key.1]
  have e : (PyData.list (m.map sgD)).depth = PyData.depthAll (m.map sgD) + 1 := by first | rfl | exact Nat.add_comm _ _
  show decide (_ ≤ 64) = true
  rw [decide_eq_true_iff, e]
  omega
/-- l.index(x), l a list of signs -/
theorem r_indexSg {K : PySem.W.Frag} {H : Hp} {Q : VK} {a : Addr} {xs : List V} {v : V} {m : List Tl.Sg} {x : Tl.Sg} {j : Nat} (hl : SqL K H a xs) (hm : SgL K H xs m) (hv : SgV K H v x) (hj : m[j]? = some x) (hno : ∀ i, i < j → m[i]? ≠ some x) (q : Q (.int (j : Nat)) H) :
    rIndexD K (.ref a) [v] H Q := by
  refine ⟨a, v, sgD x, m.map sgD, j, sgD x, rfl, rfl, .lst hl hm.dps, hv.dp, sgs_shaped m, sg_shaped x, by rw [List.getElem?_map, hj]; rfl, by rw [sg_eqv]; simp, fun i z hi hz => ?_, q⟩
  rw [List.getElem?_map] at hz
  obtain ⟨y, hy, rfl⟩ := Option.map_eq_some_iff.mp hz
  rw [sg_eqv]
  refine decide_eq_false fun e => hno i hi ?_
  rw [hy, e]
end Dk

/-! immutable data: kept as long as tuples are kept -/
namespace Dk
open PySem PySem.Spec PyProof.Rows L2
section
variable {H H' H1 H2 : Hp} {b h p l : Addr} {xs ys : List V} {o : HO}
theorem Tk.refl (H : Hp) : Tk H H := fun _ _ e => e
theorem Tk.trans (x : Tk H H1) (y : Tk H1 H2) : Tk H H2 := fun p xs e => y p xs (x p xs e)
theorem Tk.ex (e : Ex H H') : Tk H H' := fun p xs h => e _ _ h
theorem Tk.put (e : H l = some (.lst xs)) : Tk H (upd H l o) := fun p ys h => by
  have n : p ≠ l := fun z => by rw [z, e] at h; cases h
  rw [upd_ne n]
  exact h
theorem Tk.new (e : H p = none) : Tk H (upd H p o) := .ex (Same.new (Same.refl H) e)
theorem Bx.tk (s : Bx H b h) (d : Dr2 b h H H') : Tk H H' := fun p xs e => by
  obtain ⟨_, z, ns, h1, _, _, h2, _⟩ := s
  exact d.hh p _ (fun q => by rw [q, h1] at e; cases e) (fun q => by rw [q, h2] at e; cases e) e
end
/-- a relation between values and data that tuples alone bear -/
class Imm {α : Type} (R : Hp → V → α → Prop) : Prop where
  tk : ∀ {H H' : Hp} {v : V} {x : α}, Tk H H' → R H v x → R H' v x
theorem imm {α : Type} {R : Hp → V → α → Prop} [i : Imm R] {H H' : Hp} {v : V} {x : α} (t : Tk H H') (r : R H v x) : R H' v x := i.tk t r
def IntV (H : Hp) (v : V) (n : Nat) : Prop := v = .int (n : Nat)
def StrV (H : Hp) (v : V) (z : Str) : Prop := v = .str z
def PairV (K : PySem.W.Frag) {α β : Type} (R : Hp → V → α → Prop) (S : Hp → V → β → Prop) (H : Hp) (v : V) (x : α × β) : Prop := ∃ (p : Addr) (a b : V), v = .ref p ∧ Tu K H p [a, b] ∧ R H a x.1 ∧ S H b x.2
def TupV (K : PySem.W.Frag) {α : Type} (R : Hp → V → α → Prop) (H : Hp) (v : V) (l : List α) : Prop := ∃ (p : Addr) (xs : List V), v = .ref p ∧ Tu K H p xs ∧ P2 (R H) xs l
instance : Imm IntV := ⟨fun _ h => h⟩
instance : Imm StrV := ⟨fun _ h => h⟩
instance {K : PySem.W.Frag} : Imm (SgV K) := ⟨fun t h => h.imp fun p z => ⟨z.1, z.2.tk t⟩⟩
instance {K : PySem.W.Frag} {α β : Type} {R : Hp → V → α → Prop} {S : Hp → V → β → Prop} [Imm R] [Imm S] : Imm (PairV K R S) := ⟨fun t h => by
  obtain ⟨p, a, b, h1, h2, h3, h4⟩ := h
  exact ⟨p, a, b, h1, h2.tk t, imm t h3, imm t h4⟩⟩
theorem p2_imm {α : Type} {R : Hp → V → α → Prop} [Imm R] {H H' : Hp} {xs : List V} {l : List α} (t : Tk H H') (h : P2 (R H) xs l) : P2 (R H') xs l := h.imp fun _ _ z => imm t z
instance {K : PySem.W.Frag} {α : Type} {R : Hp → V → α → Prop} [Imm R] : Imm (TupV K R) := ⟨fun t h => by
  obtain ⟨p, xs, h1, h2, h3⟩ := h
  exact ⟨p, xs, h1, h2.tk t, p2_imm t h3⟩⟩
section
variable {α β : Type} {R : Hp → V → α → Prop} {S : Hp → V → β → Prop} {K : PySem.W.Frag} {σ : L2.St} {H H' : Hp} {Q : VK} {v u a b : V} {x : α} {y : β} {l m : List α} {xs : List V} {N : L2.St → Hp → Prop}
theorem TupV.ref (h : TupV K R H v l) : ∃ p xs, v = .ref p ∧ Tu K H p xs ∧ P2 (R H) xs l := h
theorem r_ixTV {i : Nat} (h : TupV K R H v l) (hx : l[i]? = some x) (q : ∀ u, R H u x → Q u H) : rIx K v (.int (i : Nat)) H Q := by
  obtain ⟨p, xs, rfl, hp, hl⟩ := h
  obtain ⟨u, hu, hr⟩ := hl.get' hx
  exact r_ixT hp.sq (atI_nat hu) (q u hr)
theorem r_ixTm (h : TupV K R H v (l ++ [x])) (q : ∀ u, R H u x → Q u H) : rIx K v (.int (-1)) H Q := by
  obtain ⟨p, xs, rfl, hp, hl⟩ := h
  have hlen := hl.len
  obtain ⟨u, hu, hr⟩ := hl.get' (i := l.length) (b := x) (by simp)
  rw [List.length_append, List.length_singleton] at hlen
  have e : xs = xs.dropLast ++ [u] := by
    have hne : xs ≠ [] := fun z => by rw [z] at hlen; simp at hlen
    have h1 := (List.dropLast_concat_getLast hne).symm
    have h2 : xs.getLast hne = u := by
      have h3 : xs[xs.length - 1]? = some (xs.getLast hne) := by rw [← List.getLast?_eq_getElem?]; exact List.getLast?_eq_some_getLast hne
      rw [hlen, Nat.add_sub_cancel, hu] at h3
      exact (Option.some.inj h3).symm
    rw [h2] at h1
    exact h1
  rw [e] at hp
  exact r_ixT hp.sq (atI_last _ _) (q u hr)
theorem r_ixP0 {z : α × β} (h : PairV K R S H v z) (q : ∀ u, R H u z.1 → Q u H) : rIx K v (.int 0) H Q := by
  obtain ⟨p, a, b, rfl, hp, ha, hb⟩ := h
  exact r_ixT hp.sq (atI_nat (j := 0) rfl) (q a ha)
theorem r_ixP1 {z : α × β} (h : PairV K R S H v z) (q : ∀ u, S H u z.2 → Q u H) : rIx K v (.int 1) H Q := by
  obtain ⟨p, a, b, rfl, hp, ha, hb⟩ := h
  exact r_ixT hp.sq (atI_nat (j := 1) rfl) (q b hb)
theorem r_ixS0 {z : Tl.Sg} (h : SgV K H v z) (q : Q (.int (z.1 : Nat)) H) : rIx K v (.int 0) H Q := by
  obtain ⟨p, rfl, hp⟩ := h
  exact r_ixT hp.sq (atI_nat (j := 0) rfl) q
theorem r_ixS1 {z : Tl.Sg} (h : SgV K H v z) (q : Q (.int (z.2 : Nat)) H) : rIx K v (.int 1) H Q := by
  obtain ⟨p, rfl, hp⟩ := h
  exact r_ixT hp.sq (atI_nat (j := 1) rfl) q
theorem r_lenTV (h : TupV K R H v l) (q : Q (.int (l.length : Nat)) H) : rLenU K [v] H Q := by
  obtain ⟨p, xs, rfl, hp, hl⟩ := h
  refine r_lenT hp.sq ?_
  rw [hl.len]
  exact q
theorem r_gP {t : TGs} {z : α × β} (h : PairV K R S H v z) (k : ∀ a b, R H a z.1 → S H b z.2 → t [a, b] σ H N) : gTup K 2 t v σ H N := by
  obtain ⟨p, a, b, rfl, hp, ha, hb⟩ := h
  exact r_gtup hp.sq rfl (k a b ha hb)
theorem r_mkP [Imm R] [Imm S] (ha : R H a x) (hb : S H b y) (q : ∀ p H', H p = none → Ex H H' → PairV K R S H' (.ref p) (x, y) → Q (.ref p) H') : [a, b].length ≤ sizeLine ∧ ∀ p, H p = none → Q (.ref p) (upd H p (.tup [a, b])) :=
  r_small nsz fun p hp => q p _ hp (Same.new (Same.refl H) hp) ⟨p, a, b, rfl, .inl upd_same, imm (.new hp) ha, imm (.new hp) hb⟩
theorem r_mkS {i j : Nat} (q : ∀ p H', H p = none → Ex H H' → SgV K H' (.ref p) (i, j) → Q (.ref p) H') : [V.int (i : Nat), V.int (j : Nat)].length ≤ sizeLine ∧ ∀ p, H p = none → Q (.ref p) (upd H p (.tup [V.int (i : Nat), V.int (j : Nat)])) :=
  r_small nsz fun p hp => q p _ hp (Same.new (Same.refl H) hp) ⟨p, rfl, .inl upd_same⟩
theorem r_mkT [Imm R] (h : P2 (R H) xs l) (hl : l.length ≤ 1000) (q : ∀ p H', H p = none → Ex H H' → TupV K R H' (.ref p) l → Q (.ref p) H') : xs.length ≤ sizeLine ∧ ∀ p, H p = none → Q (.ref p) (upd H p (.tup xs)) :=
  r_small (by rw [h.len]; exact hl) fun p hp => q p _ hp (Same.new (Same.refl H) hp) ⟨p, xs, rfl, .inl upd_same, p2_imm (.new hp) h⟩
theorem r_catTV [Imm R] (h1 : TupV K R H v l) (h2 : TupV K R H u m) (hz : l.length + m.length ≤ 1000) (q : ∀ w H', Ex H H' → TupV K R H' w (l ++ m) → Q w H') : rAddU K v u H Q := by
  obtain ⟨p, xs, rfl, hp, hl⟩ := h1
  obtain ⟨p2, ys, rfl, hp2, hm⟩ := h2
  refine .inr (.inr (.inr ⟨p, p2, xs, ys, rfl, rfl, hp.sq, hp2.sq, Nat.le_of_lt (small1000 (by rw [hl.len, hm.len]; exact hz)), fun z => ?_, fun _ z => ?_, fun _ _ p3 hp3 => ?_⟩))
  · subst z
    cases hl
    exact q _ H (Same.refl H) ⟨p2, ys, rfl, hp2, hm⟩
  · subst z
    cases hm
    rw [List.append_nil] at q
    exact q _ H (Same.refl H) ⟨p, xs, rfl, hp, hl⟩
  · exact q _ _ (Same.new (Same.refl H) hp3) ⟨p3, _, rfl, .inl upd_same, p2_imm (.new hp3) (hl.app hm)⟩
theorem P2.all {l' : List V} {m' : List α} {P : V → α → Prop} (h : P2 P l' m') (lo hi : Option Int) : P2 P (cutV l' lo hi) ((m'.drop (HT.sIx m'.length 0 lo)).take (HT.sIx m'.length m'.length hi - HT.sIx m'.length 0 lo)) := by
  unfold cutV
  rw [h.len]
  exact (h.drop _).take _
theorem r_slTV [Imm R] {lo hi : Option Int} (h : TupV K R H v l) (q : ∀ w H', Ex H H' → TupV K R H' w ((l.drop (HT.sIx l.length 0 lo)).take (HT.sIx l.length l.length hi - HT.sIx l.length 0 lo)) → Q w H') : rSlU K v lo hi H Q := by
  obtain ⟨p, xs, rfl, hp, hl⟩ := h
  refine .inr (.inr ⟨p, xs, rfl, hp.sq, fun z => ?_, fun _ p2 hp2 => ?_⟩)
  · have e : ((l.drop (HT.sIx l.length 0 lo)).take (HT.sIx l.length l.length hi - HT.sIx l.length 0 lo)) = l := by
      rw [hl.len] at z
      rw [z.1, z.2, List.drop_zero, Nat.sub_zero, List.take_length]
    rw [e] at q
    exact q _ H (Same.refl H) ⟨p, xs, rfl, hp, hl⟩
  · exact q _ _ (Same.new (Same.refl H) hp2) ⟨p2, _, rfl, .inl upd_same, p2_imm (.new hp2) (hl.all lo hi)⟩
theorem cut_to {l : List α} {k : Nat} : (l.drop (HT.sIx l.length 0 none)).take (HT.sIx l.length l.length (some (k : Int)) - HT.sIx l.length 0 none) = l.take k := by
  rw [HT.sIx_nat, HT.sIx_none, List.drop_zero, Nat.sub_zero]
  by_cases h : k ≤ l.length
  · rw [Nat.min_eq_left h]
  · rw [Nat.min_eq_right (by omega), List.take_length, List.take_of_length_le (by omega)]
theorem cut_from {l : List α} {k : Nat} : (l.drop (HT.sIx l.length 0 (some (k : Int)))).take (HT.sIx l.length l.length none - HT.sIx l.length 0 (some (k : Int))) = l.drop k := by
  rw [HT.sIx_nat, HT.sIx_none]
  by_cases h : k ≤ l.length
  · rw [Nat.min_eq_left h, List.take_of_length_le (by rw [List.length_drop]; omega)]
  · rw [Nat.min_eq_right (by omega), Nat.sub_self, List.take_zero, List.drop_eq_nil_of_le (by omega)]
theorem r_slTo [Imm R] {k : Nat} (h : TupV K R H v l) (q : ∀ w H', Ex H H' → TupV K R H' w (l.take k) → Q w H') : rSlU K v none (some (k : Int)) H Q := r_slTV h (by rw [cut_to]; exact q)
theorem r_slFrom [Imm R] {k : Nat} (h : TupV K R H v l) (q : ∀ w H', Ex H H' → TupV K R H' w (l.drop k) → Q w H') : rSlU K v (some (k : Int)) none H Q := r_slTV h (by rw [cut_from]; exact q)
/-- tuple(list) -/
theorem r_tupLV [Imm R] {p : Addr} (hp : H p = some (.lst xs)) (h : P2 (R H) xs l) (q : ∀ p H', H p = none → Ex H H' → TupV K R H' (.ref p) l → Q (.ref p) H') : rTupU K [.ref p] H Q :=
  r_tupL (sqL hp) fun p2 hp2 => q p2 _ hp2 (Same.new (Same.refl H) hp2) ⟨p2, xs, rfl, .inl upd_same, p2_imm (.new hp2) h⟩
/-- an item of a list -/
theorem r_ixLV {p : Addr} {i : Nat} (hp : H p = some (.lst xs)) (h : P2 (R H) xs l) (hx : l[i]? = some x) (q : ∀ u, R H u x → Q u H) : rIx K (.ref p) (.int (i : Nat)) H Q := by
  obtain ⟨u, hu, hr⟩ := h.get' hx
  exact r_ixL (sqL hp) (atI_nat hu) (q u hr)
theorem r_ixLm {p : Addr} (hp : H p = some (.lst xs)) (h : P2 (R H) xs (l ++ [x])) (q : ∀ u, R H u x → Q u H) : rIx K (.ref p) (.int (-1)) H Q := by
  have hlen := h.len
  obtain ⟨u, hu, hr⟩ := h.get' (i := l.length) (b := x) (by simp)
  rw [List.length_append, List.length_singleton] at hlen
  have e : xs = xs.dropLast ++ [u] := by
    have hne : xs ≠ [] := fun z => by rw [z] at hlen; simp at hlen
    have h1 := (List.dropLast_concat_getLast hne).symm
    have h2 : xs.getLast hne = u := by
      have h3 : xs[xs.length - 1]? = some (xs.getLast hne) := by rw [← List.getLast?_eq_getElem?]; exact List.getLast?_eq_some_getLast hne
      rw [hlen, Nat.add_sub_cancel, hu] at h3
      exact (Option.some.inj h3).symm
    rw [h2] at h1
    exact h1
  rw [e] at hp
  exact r_ixL (sqL hp) (atI_last _ _) (q u hr)
end
/-! equality of pairs of signs -/
abbrev SpV (K : PySem.W.Frag) := PairV K (SgV K) (SgV K)
abbrev spD (x : Tl.Sg × Tl.Sg) : PyData := .tuple [sgD x.1, sgD x.2]
theorem SpV.dp {K : PySem.W.Frag} {G : Hp} {v : V} {x : Tl.Sg × Tl.Sg} (h : SpV K G v x) : Dp K G v (spD x) := by
  obtain ⟨p, a, b, rfl, hp, ha, hb⟩ := h
  exact .tup hp.sq (.cons ha.dp (.cons hb.dp .nil))
theorem sp_shaped (x : Tl.Sg × Tl.Sg) : SeqAt.shaped (spD x) = true := by rfl
theorem sp_eqv (x y : Tl.Sg × Tl.Sg) : PyData.eqv (spD x) (spD y) = decide (x = y) := by
  obtain ⟨a, b⟩ := x
  obtain ⟨c, d⟩ := y
  show (PyData.eqv (sgD a) (sgD c) && (PyData.eqv (sgD b) (sgD d) && true)) = _
  rw [sg_eqv, sg_eqv, Bool.and_true, Bool.eq_iff_iff]
  simp
theorem r_eqSp {K : PySem.W.Frag} {H : Hp} {Q : VK} {v w : V} {x y : Tl.Sg × Tl.Sg} (h1 : SpV K H v x) (h2 : SpV K H w y) (q : Q (.bl (decide (x = y))) H) : rEqU K v w H Q :=
  .inr ⟨_, _, h1.dp, h2.dp, sp_shaped x, sp_shaped y, by rw [sp_eqv]; exact q⟩
theorem r_neSp {K : PySem.W.Frag} {H : Hp} {Q : VK} {v w : V} {x y : Tl.Sg × Tl.Sg} (h1 : SpV K H v x) (h2 : SpV K H w y) (q : Q (.bl (!decide (x = y))) H) : rNeU K v w H Q :=
  .inr ⟨_, _, h1.dp, h2.dp, sp_shaped x, sp_shaped y, by rw [sp_eqv]; exact q⟩
theorem sps_shaped (m : List (Tl.Sg × Tl.Sg)) : SeqAt.shaped (.list (m.map spD)) = true := by
  have key : PyData.canLayAll0 (m.map spD) = true ∧ PyData.depthAll (m.map spD) ≤ 3 := by
    induction m with
    | nil => exact ⟨rfl, by decide⟩
    | cons x r ih =>
      refine ⟨?_, ?_⟩
      · show ((spD x).canLay0 && PyData.canLayAll0 (r.map spD)) = true
        rw [ih.1]
        rfl
      · show max (spD x).depth (PyData.depthAll (r.map spD)) ≤ 3
        have e : (spD x).depth ≤ 3 := by simp [spD, sgD, PyData.depth, PyData.depthAll]
        omega
  show (PyData.canLayAll0 (m.map spD) && decide (_ ≤ 64)) = true
  rw [key.1]
  have e : (PyData.list (m.map spD)).depth = PyData.depthAll (m.map spD) + 1 := by first | rfl | exact Nat.add_comm _ _
  show decide (_ ≤ 64) = true
  rw [decide_eq_true_iff, e]
  omega
theorem sps_dps {K : PySem.W.Frag} {H : Hp} {xs : List V} {m : List (Tl.Sg × Tl.Sg)} (h : P2 (SpV K H) xs m) : DpAll K H xs (m.map spD) := by
  induction h with
  | nil => exact .nil
  | cons h t ih => exact .cons (SpV.dp h) ih
/-- pair not in a list of pairs -/
theorem r_niSp {K : PySem.W.Frag} {H : Hp} {Q : VK} {v : V} {p : Addr} {xs : List V} {x : Tl.Sg × Tl.Sg} {m : List (Tl.Sg × Tl.Sg)} (h1 : SpV K H v x) (hp : H p = some (.lst xs)) (h2 : P2 (SpV K H) xs m) (q : Q (.bl (!decide (x ∈ m))) H) : rNotInD K v (.ref p) H Q := by
  exact ⟨_, _, h1.dp, .lst (sqL hp) (sps_dps h2), sp_shaped x, sps_shaped m, by
    have e : ((m.map spD).any fun z => PyData.eqv z (spD x)) = decide (x ∈ m) := by
      rw [List.any_map, Bool.eq_iff_iff, List.any_eq_true, decide_eq_true_iff]
      constructor
      · rintro ⟨y, hy, e⟩
        rw [Function.comp_apply, sp_eqv, decide_eq_true_iff] at e
        rw [← e]
        exact hy
      · intro h
        exact ⟨x, h, by rw [Function.comp_apply, sp_eqv]; exact decide_eq_true rfl⟩
    rw [e]
    exact q⟩
end Dk

/-! rules of our own, further -/
namespace Dk
open PySem PySem.Spec PyProof.Rows L2
/-! text * number -/
def rRepS : R2 := fun x y H Q => ∃ (z : Str) (n : Nat), x = .str z ∧ y = .int (n : Nat) ∧ z.length ≤ 100 ∧ n ≤ 8000 ∧ Q (.str (Txt.mul z n)) H
theorem op_repS {X : Cx} : OpR X (binaryOp .Mult) rRepS := by
  intro pins s σ H x y v u Q I rx ry h
  obtain ⟨z, n, rfl, rfl, hz, hn, q⟩ := h
  obtain ⟨t, rfl⟩ := rx
  obtain ⟨t', rfl⟩ := ry
  refine SB.mul ⟨?_, fun h1 h2 => ?_, fun h1 h2 => ?_⟩ fun t' k => ⟨.str (Txt.mul z n), H, I.tok _, ⟨_, rfl⟩, q⟩
  · simp
    omega
  · have e : (z.length : Int) * n ≤ 2 ^ 63 - 1 := by
      have : (z.length : Int) * n ≤ 100 * 8000 := Int.mul_le_mul (by omega) (by omega) (by omega) (by omega)
      omega
    have p : (0 : Int) < n := by omega
    have := (Int.le_ediv_iff_mul_le p).mpr e
    omega
  · have e : z.length * n ≤ 100 * 8000 := Nat.mul_le_mul hz hn
    rw [Int.toNat_natCast]
    show decide (z.length * n > sizeLine) = false
    rw [decide_eq_false_iff_not, sizeLine_eq]
    omega
theorem r_repS {H : Hp} {Q : VK} {z : Str} {n : Nat} (hz : z.length ≤ 100) (hn : n ≤ 8000) (q : Q (.str (Txt.mul z n)) H) : rRepS (.str z) (.int (n : Nat)) H Q := ⟨z, n, rfl, rfl, hz, hn, q⟩
theorem cs_mul (z : Str) (n : Nat) : cs (Txt.mul z n) = (List.replicate n (cs z)).flatten := by
  unfold Txt.mul
  by_cases h1 : (n : Int) < 1
  · have e : n = 0 := by omega
    subst e
    rw [if_pos h1]
    rfl
  · rw [if_neg h1]
    by_cases h2 : ((n : Int) == 1 || z.length == 0) = true
    · rw [if_pos h2]
      rw [Bool.or_eq_true, beq_iff_eq, beq_iff_eq] at h2
      rcases h2 with h2 | h2
      · have e : n = 1 := by omega
        subst e
        simp
      · have e : cs z = [] := List.length_eq_zero_iff.mp (by rw [cs_len]; exact h2)
        rw [e]
        simp
    · rw [if_neg h2, Int.toNat_natCast]
      have key : ∀ (m : Nat) (a : Array Nat), ((List.replicate m z.cps).foldl (fun x y => x ++ y) a).toList = a.toList ++ (List.replicate m (cs z)).flatten := by
        intro m
        induction m with
        | zero => intro a; simp
        | succ m ih =>
          intro a
          rw [List.replicate_succ, List.foldl_cons, ih, List.replicate_succ, List.flatten_cons, Array.toList_append, List.append_assoc]
      have q := key n #[]
      simpa using q
theorem len_mul (z : Str) (n : Nat) : (Txt.mul z n).length = n * z.length := by
  rw [← cs_len, cs_mul, List.length_flatten, List.map_replicate, List.sum_replicate_nat, cs_len]
/-! reversed(a tuple) -/
theorem r_forRvo {K : PySem.W.Frag} {te : TE} {g : TG} {tb : TS} {D : Ends} {σ : L2.St} {H : Hp} (h : te σ H fun v H1 => ∃ (a : Addr) (xs : List V), v = .ref a ∧ ((SqL K H1 a xs ∧ LoopW (Itv K a xs.length) g tb D σ H1) ∨ (SqT K H1 a xs ∧ LoopW (RT.ItvT K a xs.length) g tb D σ H1))) : tFor (RT.iRevA K te) g tb D σ H := h
theorem r_mkSi {K : PySem.W.Frag} {H : Hp} {Q : VK} {a b : Int} {i j : Nat} (ea : a = (i : Nat)) (eb : b = (j : Nat)) (q : ∀ p H', H p = none → Ex H H' → SgV K H' (.ref p) (i, j) → Q (.ref p) H') : [V.int a, V.int b].length ≤ sizeLine ∧ ∀ p, H p = none → Q (.ref p) (upd H p (.tup [V.int a, V.int b])) := by
  subst ea eb
  exact r_mkS q
section
variable {α β : Type} {R : Hp → V → α → Prop} {S : Hp → V → β → Prop} {H : Hp} {p : Addr} {u v : V} {x : α} {y : β} {l : List α} {xs : List V}
theorem nP (K : PySem.W.Frag) [Imm R] [Imm S] (hp : H p = none) (ha : R H u x) (hb : S H v y) : ∃ H', H' = upd H p (.tup [u, v]) ∧ Ex H H' ∧ PairV K R S H' (.ref p) (x, y) :=
  ⟨_, rfl, Same.new (Same.refl H) hp, p, u, v, rfl, .inl upd_same, imm (.new hp) ha, imm (.new hp) hb⟩
theorem nS (K : PySem.W.Frag) {a b : Int} {i j : Nat} (hp : H p = none) (ea : a = (i : Nat)) (eb : b = (j : Nat)) : ∃ H', H' = upd H p (.tup [V.int a, V.int b]) ∧ Ex H H' ∧ SgV K H' (.ref p) (i, j) := by
  subst ea eb
  exact ⟨_, rfl, Same.new (Same.refl H) hp, p, rfl, .inl upd_same⟩
theorem nT (K : PySem.W.Frag) [Imm R] (hp : H p = none) (h : P2 (R H) xs l) : ∃ H', H' = upd H p (.tup xs) ∧ Ex H H' ∧ TupV K R H' (.ref p) l :=
  ⟨_, rfl, Same.new (Same.refl H) hp, p, xs, rfl, .inl upd_same, p2_imm (.new hp) h⟩
theorem nL (o : HO) (hp : H p = none) : ∃ H', H' = upd H p o ∧ Ex H H' ∧ H' p = some o := ⟨_, rfl, Same.new (Same.refl H) hp, upd_same⟩
end
/-! within a comprehension -/
theorem k_eqU {X : Cx} {K : PySem.W.Frag} (h : X.K = K) (hu : X.A.units + 64 < cLine) : OpR X (compareOp .Eq) (rEqU K) := h ▸ op_eqU hu
theorem k_neU {X : Cx} {K : PySem.W.Frag} (h : X.K = K) (hu : X.A.units + 64 < cLine) : OpR X (compareOp .NotEq) (rNeU K) := h ▸ op_neU hu
/-! ints in lists -/
section
variable {K : PySem.W.Frag} {H : Hp} {Q : VK} {p : Addr} {ns : List Int} {i : Int}
theorem flat_ints : (ns.map V.int).all flatV = true := by
  rw [List.all_map, List.all_eq_true]
  intro x _
  rfl
theorem inV_ints : inV (.int i) (ns.map V.int) = decide (i ∈ ns) := by
  unfold inV
  rw [List.any_map, Bool.eq_iff_iff, List.any_eq_true, decide_eq_true_iff]
  constructor
  · rintro ⟨y, hy, e⟩
    have z : y = i := by
      have := e
      simp [eqV] at this
      omega
    rw [← z]
    exact hy
  · intro h
    exact ⟨i, h, by simp [eqV]⟩
theorem r_inI (hp : SqL K H p (ns.map V.int)) (q : Q (.bl (decide (i ∈ ns))) H) : rInU K (.int i) (.ref p) H Q :=
  .inr ⟨p, _, rfl, .inl hp, rfl, flat_ints, by
    show Q (.bl (inV (.int i) (ns.map V.int))) H
    rw [inV_ints]
    exact q⟩
theorem dps_ints : DpAll K H (ns.map V.int) (ns.map PyData.int) := by
  induction ns with
  | nil => exact .nil
  | cons x r ih => exact .cons (.int _) ih
theorem ints_shaped : SeqAt.shaped (.list (ns.map PyData.int)) = true := by
  have key : PyData.canLayAll0 (ns.map PyData.int) = true ∧ PyData.depthAll (ns.map PyData.int) ≤ 2 := by
    induction ns with
    | nil => exact ⟨rfl, by decide⟩
    | cons x r ih =>
      refine ⟨?_, ?_⟩
      · show ((PyData.int x).canLay0 && PyData.canLayAll0 (r.map PyData.int)) = true
        rw [ih.1]
        rfl
      · show max (PyData.int x).depth (PyData.depthAll (r.map PyData.int)) ≤ 2
        have e : (PyData.int x).depth ≤ 2 := by simp [PyData.depth]
        omega
  show (PyData.canLayAll0 (ns.map PyData.int) && decide (_ ≤ 64)) = true
  rw [key.1]
  have e : (PyData.list (ns.map PyData.int)).depth = PyData.depthAll (ns.map PyData.int) + 1 := by first | rfl | exact Nat.add_comm _ _
  show decide (_ ≤ 64) = true
  rw [decide_eq_true_iff, e]
  omega
/-- l.index(i), l a list of ints -/
theorem r_indexI {j : Nat} (hp : SqL K H p (ns.map V.int)) (hj : ns[j]? = some i) (hno : ∀ m, m < j → ns[m]? ≠ some i) (q : Q (.int (j : Nat)) H) : rIndexD K (.ref p) [.int i] H Q := by
  refine ⟨p, .int i, .int i, ns.map PyData.int, j, .int i, rfl, rfl, .lst hp dps_ints, .int i, ints_shaped, rfl, by rw [List.getElem?_map, hj]; rfl, ?_, fun m z hm hz => ?_, q⟩
  · show ((i : Int) == i) = true
    exact beq_self_eq_true i
  · rw [List.getElem?_map] at hz
    obtain ⟨y, hy, rfl⟩ := Option.map_eq_some_iff.mp hz
    show ((y : Int) == i) = false
    rw [beq_eq_false_iff_ne]
    intro e
    exact hno m hm (by rw [hy, e])
end
end Dk

/-! min(a, b), max(a, b) of two tuples of numbers; sorted of two -/
namespace Dk
open PySem PySem.Spec PyProof.Rows L2 PySem.SeqAt PySem.W
section
variable {prog : Program} {w : World} {A : Around} {E : Value → Shared → Prop} {s : Shared}
theorem call_min_twoH {a b : Value} {Q : Value → Shared → Prop}
    (h : wpAny (model prog w) A.in1 (pyIter (.ref s.heap.objs.size)) (fun it s₂ => ∃ I fp wr G n P St H bt, it = .ref I ∧ WalksS prog w A.in1 I fp wr G n P St ∧ St 0 s₂ ∧ (∀ b ∈ fp, b < s₂.heap.objs.size) ∧ 0 < n ∧
      (∀ b o, H.get? b = some o → b ∉ wr) ∧ (∀ b o, H.get? b = some o → s₂.heap.get? b = some o) ∧ CmpIn prog w A.in1 .Lt H P bt ∧ ∀ v s', P (argBest bt (n - 1)) v → Moved wr G s₂ s' → Q v s') E
      { s with heap := s.heap.push { cls := .type "tuple", data := .seq #[a, b] } }) :
    wpAny (model prog w) A (call (.builtin "min") [a, b]) Q E s := by
  have hname : (toString "min" ++ toString ".loop" : String) = "min.loop" := by decide
  refine call_function_tree F.kind_min F.plain_min F.entry_min (F.args_min2 _ _) ?_
  show wpAny _ A.in1 (Builtin.Builtins.bindParams "min" ["key", "default"] 0 ⟨[], []⟩ >>= _) _ _ s
  refine wpAny_bind (wpAny_of_eq (show Builtin.Builtins.bindParams "min" ["key", "default"] 0 ⟨[], []⟩ = pure [none, none] from rfl) ?_)
  show wpAny _ A.in1 (newTuple [a, b] >>= _) _ _ s
  refine wpAny_bind (wpAny_newObj_type ?_)
  refine wpAny_bind (wpAny_mono h (fun it s₂ h₂ => ?_) fun _ _ e => e)
  obtain ⟨I, fp, wr, G, n, P, St, H, bt, rfl, W, hst, hfp, hn, hw, hkeep, hcmp, hQ⟩ := h₂
  refine wpAny_bind (wpAny_newObj_type ?_)
  have hSf : s₂.heap.objs.size ∉ fp := fun hm => Nat.lt_irrefl _ (hfp _ hm)
  rw [hname]
  refine wpAny_pure ⟨plainId_quiet F.plain_min_loop _, codeAny_min_loop_firstH W H hw bt hcmp s₂.heap.objs.size hSf (fresh_in hkeep) _ hn (fun b o e => Heap.get?_push_of_some _ (hkeep b o e)) (W.frame 0 s₂ _ s₂.toks hst (Nat.le_refl _) fun b _ o e => Heap.get?_push_of_some _ e) (Heap.get?_push_size _ rfl) fun v s' hP hm => ?_⟩
  exact hQ v s' hP (Moved.drop_new (tk := s₂.toks) hm (Nat.le_refl _))
theorem call_max_twoH {a b : Value} {Q : Value → Shared → Prop}
    (h : wpAny (model prog w) A.in1 (pyIter (.ref s.heap.objs.size)) (fun it s₂ => ∃ I fp wr G n P St H bt, it = .ref I ∧ WalksS prog w A.in1 I fp wr G n P St ∧ St 0 s₂ ∧ (∀ b ∈ fp, b < s₂.heap.objs.size) ∧ 0 < n ∧
      (∀ b o, H.get? b = some o → b ∉ wr) ∧ (∀ b o, H.get? b = some o → s₂.heap.get? b = some o) ∧ CmpIn prog w A.in1 .Gt H P bt ∧ ∀ v s', P (argBest bt (n - 1)) v → Moved wr G s₂ s' → Q v s') E
      { s with heap := s.heap.push { cls := .type "tuple", data := .seq #[a, b] } }) :
    wpAny (model prog w) A (call (.builtin "max") [a, b]) Q E s := by
  have hname : (toString "max" ++ toString ".loop" : String) = "max.loop" := by decide
  refine call_function_tree F.kind_max F.plain_max F.entry_max (F.args_max2 _ _) ?_
  show wpAny _ A.in1 (Builtin.Builtins.bindParams "max" ["key", "default"] 0 ⟨[], []⟩ >>= _) _ _ s
  refine wpAny_bind (wpAny_of_eq (show Builtin.Builtins.bindParams "max" ["key", "default"] 0 ⟨[], []⟩ = pure [none, none] from rfl) ?_)
  show wpAny _ A.in1 (newTuple [a, b] >>= _) _ _ s
  refine wpAny_bind (wpAny_newObj_type ?_)
  refine wpAny_bind (wpAny_mono h (fun it s₂ h₂ => ?_) fun _ _ e => e)
  obtain ⟨I, fp, wr, G, n, P, St, H, bt, rfl, W, hst, hfp, hn, hw, hkeep, hcmp, hQ⟩ := h₂
  refine wpAny_bind (wpAny_newObj_type ?_)
  have hSf : s₂.heap.objs.size ∉ fp := fun hm => Nat.lt_irrefl _ (hfp _ hm)
  rw [hname]
  refine wpAny_pure ⟨plainId_quiet F.plain_max_loop _, codeAny_max_loop_firstH W H hw bt hcmp s₂.heap.objs.size hSf (fresh_in hkeep) _ hn (fun b o e => Heap.get?_push_of_some _ (hkeep b o e)) (W.frame 0 s₂ _ s₂.toks hst (Nat.le_refl _) fun b _ o e => Heap.get?_push_of_some _ e) (Heap.get?_push_size _ rfl) fun v s' hP hm => ?_⟩
  exact hQ v s' hP (Moved.drop_new (tk := s₂.toks) hm (Nat.le_refl _))
theorem min_two_data {a b : Value} {x y : PyData} {as bs : List Addr} {Q : Value → Shared → Prop} (hh : A.handled = none) (ra : Reads s.heap a x as) (rb : Reads s.heap b y bs) (ha : PySem.W.AlikeAll [x, y]) (hu : A.units + 1 + PyData.depthAll [x, y] < cLine)
    (h : ∀ h' tk, (∀ c o, s.heap.get? c = some o → h'.get? c = some o) → Q (if dataLt y x = true then b else a) { s with heap := h', toks := tk }) :
    wpAny (model prog w) A (call (.builtin "min") [a, b]) Q E s := by
  have k0 : ∀ c o, s.heap.get? c = some o → (s.heap.push { cls := .type "tuple", data := .seq #[a, b] }).get? c = some o := fun c o e => Heap.get?_push_of_some _ e
  have hl : ({ s with heap := s.heap.push { cls := .type "tuple", data := .seq #[a, b] } } : Shared).heap.IsTuple s.heap.objs.size #[a, b] := ⟨_, Heap.get?_push_size _ rfl, rfl, 0, rfl⟩
  have hr : ReadsAll (s.heap.push { cls := .type "tuple", data := .seq #[a, b] }) (#[a, b] : Array Value).toList [x, y] _ := ReadsAll.cons (Reads.keeps k0 ra) (ReadsAll.cons (Reads.keeps k0 rb) ReadsAll.nil)
  refine call_min_twoH (iter_tupleW (s := { s with heap := s.heap.push { cls := .type "tuple", data := .seq #[a, b] } }) (A := A.in1) hh hl fun s₂ e W st hfp hw hk => ?_)
  refine ⟨_, _, _, _, _, _, _, (s.heap.push { cls := .type "tuple", data := .seq #[a, b] }), _, rfl, W, st, hfp, by simp, hw, hk, PySem.W.cmpIn_lt (s := { s with heap := s.heap.push { cls := .type "tuple", data := .seq #[a, b] } }) (A := A.in1) hr ha (by show A.units + 1 + _ < _; exact hu), fun v s' hP m => ?_⟩
  obtain ⟨h', tk, rfl, hk'⟩ := moved_old e rfl m
  have hv : v = if dataLt y x = true then b else a := by
    have hP' : (#[a, b] : Array Value)[if dataLt y x = true then 1 else 0]? = some v := hP
    by_cases c : dataLt y x = true
    · rw [if_pos c] at hP' ⊢
      exact (Option.some.inj hP').symm
    · rw [if_neg c] at hP' ⊢
      exact (Option.some.inj hP').symm
  rw [hv]
  exact h h' tk fun c o e => hk' c o (k0 c o e)
theorem max_two_data {a b : Value} {x y : PyData} {as bs : List Addr} {Q : Value → Shared → Prop} (hh : A.handled = none) (ra : Reads s.heap a x as) (rb : Reads s.heap b y bs) (ha : PySem.W.AlikeAll [x, y]) (hu : A.units + 1 + PyData.depthAll [x, y] < cLine)
    (h : ∀ h' tk, (∀ c o, s.heap.get? c = some o → h'.get? c = some o) → Q (if dataLt x y = true then b else a) { s with heap := h', toks := tk }) :
    wpAny (model prog w) A (call (.builtin "max") [a, b]) Q E s := by
  have k0 : ∀ c o, s.heap.get? c = some o → (s.heap.push { cls := .type "tuple", data := .seq #[a, b] }).get? c = some o := fun c o e => Heap.get?_push_of_some _ e
  have hl : ({ s with heap := s.heap.push { cls := .type "tuple", data := .seq #[a, b] } } : Shared).heap.IsTuple s.heap.objs.size #[a, b] := ⟨_, Heap.get?_push_size _ rfl, rfl, 0, rfl⟩
  have hr : ReadsAll (s.heap.push { cls := .type "tuple", data := .seq #[a, b] }) (#[a, b] : Array Value).toList [x, y] _ := ReadsAll.cons (Reads.keeps k0 ra) (ReadsAll.cons (Reads.keeps k0 rb) ReadsAll.nil)
  refine call_max_twoH (iter_tupleW (s := { s with heap := s.heap.push { cls := .type "tuple", data := .seq #[a, b] } }) (A := A.in1) hh hl fun s₂ e W st hfp hw hk => ?_)
  refine ⟨_, _, _, _, _, _, _, (s.heap.push { cls := .type "tuple", data := .seq #[a, b] }), _, rfl, W, st, hfp, by simp, hw, hk, PySem.W.cmpIn_gt (s := { s with heap := s.heap.push { cls := .type "tuple", data := .seq #[a, b] } }) (A := A.in1) hr ha (by show A.units + 1 + _ < _; exact hu), fun v s' hP m => ?_⟩
  obtain ⟨h', tk, rfl, hk'⟩ := moved_old e rfl m
  have hv : v = if dataLt x y = true then b else a := by
    have hP' : (#[a, b] : Array Value)[if dataLt x y = true then 1 else 0]? = some v := hP
    by_cases c : dataLt x y = true
    · rw [if_pos c] at hP' ⊢
      exact (Option.some.inj hP').symm
    · rw [if_neg c] at hP' ⊢
      exact (Option.some.inj hP').symm
  rw [hv]
  exact h h' tk fun c o e => hk' c o (k0 c o e)
end
def rMinD (K : PySem.W.Frag) : List V → Hp → VK → Prop := fun xs H Q => ∃ (u v : V) (d e : PyData), xs = [u, v] ∧ Dp K H u d ∧ Dp K H v e ∧ AlikeAll [d, e] ∧ PyData.depthAll [d, e] ≤ 60 ∧ Q (if dataLt e d = true then v else u) H
def rMaxD2 (K : PySem.W.Frag) : List V → Hp → VK → Prop := fun xs H Q => ∃ (u v : V) (d e : PyData), xs = [u, v] ∧ Dp K H u d ∧ Dp K H v e ∧ AlikeAll [d, e] ∧ PyData.depthAll [d, e] ≤ 60 ∧ Q (if dataLt d e = true then v else u) H
section
variable {X : Cx}
theorem call_minD (hc : X.calm = true) (hu : X.A.units + 65 < cLine) : CallR X (.builtin "min") (rMinD X.K) := by
  intro pins s σ H xs us Q I r h
  obtain ⟨u, v, d, e, rfl, hd, he, ha, hz, q⟩ := h
  obtain ⟨u', v', rfl, ru, rv⟩ := vals2 r
  obtain ⟨as, r1⟩ := Dp.reads I d u u' hd ru
  obtain ⟨bs, r2⟩ := Dp.reads I e v v' he rv
  refine min_two_data (I.ok.hd hc) r1 r2 ha (by omega) fun h' tk k => ⟨_, H, I.kept k, ?_, q⟩
  split
  · exact rv
  · exact ru
theorem call_maxD (hc : X.calm = true) (hu : X.A.units + 65 < cLine) : CallR X (.builtin "max") (rMaxD2 X.K) := by
  intro pins s σ H xs us Q I r h
  obtain ⟨u, v, d, e, rfl, hd, he, ha, hz, q⟩ := h
  obtain ⟨u', v', rfl, ru, rv⟩ := vals2 r
  obtain ⟨as, r1⟩ := Dp.reads I d u u' hd ru
  obtain ⟨bs, r2⟩ := Dp.reads I e v v' he rv
  refine max_two_data (I.ok.hd hc) r1 r2 ha (by omega) fun h' tk k => ⟨_, H, I.kept k, ?_, q⟩
  split
  · exact rv
  · exact ru
end
def kf (p : Addr) (x y : Tl.Sg) (z : V) : Int × Int := if z = V.ref p then ((x.1 : Int), (x.2 : Int)) else ((y.1 : Int), (y.2 : Int))
theorem kf_1 {p : Addr} {x y : Tl.Sg} : kf p x y (.ref p) = ((x.1 : Int), (x.2 : Int)) := if_pos rfl
theorem kf_2 {p q : Addr} {x y : Tl.Sg} (h : V.ref q ≠ V.ref p) : kf p x y (.ref q) = ((y.1 : Int), (y.2 : Int)) := if_neg h
theorem perm2 {α : Type} {l : List α} {a b : α} (h : l.Perm [a, b]) : l = [a, b] ∨ l = [b, a] := by
  have hl := h.length_eq
  match l, hl with
  | [c, d], _ =>
    have hc : c ∈ [a, b] := h.mem_iff.mp (List.mem_cons_self ..)
    rcases List.mem_cons.mp hc with rfl | hc
    · have z := (List.perm_cons c).mp h
      have e := List.perm_singleton.mp z
      rw [e]
      exact .inl rfl
    · have e1 := List.mem_singleton.mp hc
      subst e1
      have z := (List.perm_cons c).mp (h.trans (List.Perm.swap c a []))
      have e := List.perm_singleton.mp z
      rw [e]
      exact .inr rfl
theorem sg_alike (x y : Tl.Sg) : AlikeAll [sgD x, sgD y] := by
  refine ⟨fun a ha b hb => ?_, fun a ha => ?_⟩
  · rcases List.mem_cons.mp ha with rfl | ha <;> rcases List.mem_cons.mp hb with rfl | hb
    · rfl
    · rw [List.mem_singleton.mp hb]; rfl
    · rw [List.mem_singleton.mp ha]; rfl
    · rw [List.mem_singleton.mp ha, List.mem_singleton.mp hb]; rfl
  · rcases List.mem_cons.mp ha with rfl | ha
    · exact fun z => nomatch z
    · rw [List.mem_singleton.mp ha]; exact fun z => nomatch z
theorem sg_lt (x y : Tl.Sg) : dataLt (sgD x) (sgD y) = decide (x.1 < y.1 ∨ (x.1 = y.1 ∧ x.2 < y.2)) := by
  rw [show dataLt (sgD x) (sgD y) = _ from dataLt_ii _ _ _ _, Bool.eq_iff_iff, decide_eq_true_iff, decide_eq_true_iff]
  omega
theorem sg_depth (x y : Tl.Sg) : PyData.depthAll [sgD x, sgD y] ≤ 60 := by simp [sgD, PyData.depth, PyData.depthAll]
section
variable {K : PySem.W.Frag} {H : Hp} {Q : VK} {u v : V} {x y : Tl.Sg}
theorem r_par {i j : Nat} {ta : TA} {σ : L2.St} {H : Hp} {D : Ends} (h : ta σ H fun vs H1 => ∃ v w, vs = [v, w] ∧ D.nx ((σ.set i (some v)).set j (some w)) H1) : tPar i j ta D σ H := h
/-- min of two signs of one chunk -/
theorem r_minSg (h : x.1 = y.1) (su : SgV K H u x) (sv : SgV K H v y) (q : Q (if y.2 < x.2 then v else u) H) : rMinD K [u, v] H Q := by
  refine ⟨u, v, _, _, rfl, su.dp, sv.dp, sg_alike x y, sg_depth x y, ?_⟩
  have e : (if dataLt (sgD y) (sgD x) = true then v else u) = if y.2 < x.2 then v else u := by
    by_cases c : y.2 < x.2
    · rw [if_pos c, if_pos (by rw [sg_lt, decide_eq_true_iff]; exact .inr ⟨h.symm, c⟩)]
    · rw [if_neg c, if_neg (by rw [sg_lt, decide_eq_true_iff]; omega)]
  rw [e]
  exact q
theorem r_maxSg (h : x.1 = y.1) (su : SgV K H u x) (sv : SgV K H v y) (q : Q (if x.2 < y.2 then v else u) H) : rMaxD2 K [u, v] H Q := by
  refine ⟨u, v, _, _, rfl, su.dp, sv.dp, sg_alike x y, sg_depth x y, ?_⟩
  have e : (if dataLt (sgD x) (sgD y) = true then v else u) = if x.2 < y.2 then v else u := by
    by_cases c : x.2 < y.2
    · rw [if_pos c, if_pos (by rw [sg_lt, decide_eq_true_iff]; exact .inr ⟨h, c⟩)]
    · rw [if_neg c, if_neg (by rw [sg_lt, decide_eq_true_iff]; omega)]
  rw [e]
  exact q
end
end Dk

/-! zip of two things, each a list, a tuple or a text -/
namespace Zp
open PySem PySem.Spec PyProof.Rows L2 Dk
inductive Kd where
  | l (a : Addr)
  | t (a : Addr)
  | s (z : Str)
abbrev sgs (z : Str) : List V := (cs z).map fun c => V.str ⟨#[c]⟩
def Kd.v : Kd → V
  | .l a => .ref a
  | .t a => .ref a
  | .s z => .str z
def Kd.has (K : PySem.W.Frag) : Kd → Hp → List V → Prop
  | .l a, H, xs => SqL K H a xs
  | .t a, H, xs => SqT K H a xs
  | .s z, _, xs => xs = sgs z
def Kd.st (tk : Tok) : Kd → Addr → Nat → Heap → Prop
  | .l a, it, i, h => h.IsListIter it a i
  | .t a, it, i, h => h.IsTupleIter it a i
  | .s z, it, i, h => h.IsStrIter it (strIterType z) z tk i
def Kd.ap : Kd → Addr → Prop
  | .l a, q => a ≠ q
  | .t a, q => a ≠ q
  | .s _, _ => True
section
variable {tk : Tok} {k : Kd} {it : Addr} {i : Nat} {h h' : Heap}
theorem Kd.st_obj (st : k.st tk it i h) : ∃ o, h.get? it = some o ∧ ∀ v, o.data ≠ .cell v := by
  cases k with
  | l a => obtain ⟨o, e, _, d⟩ := st; exact ⟨o, e, fun v q => by rw [d] at q; cases q⟩
  | t a => obtain ⟨o, e, _, d⟩ := st; exact ⟨o, e, fun v q => by rw [d] at q; cases q⟩
  | s z => obtain ⟨o, e, _, d⟩ := st; exact ⟨o, e, fun v q => by rw [d] at q; cases q⟩
theorem Kd.st_keep (st : k.st tk it i h) (q : ∀ o, h.get? it = some o → h'.get? it = some o) : k.st tk it i h' := by
  cases k with
  | l a => exact Heap.IsListIter.at st q
  | t a => exact Heap.IsTupleIter.at st q
  | s z => obtain ⟨o, ho, r⟩ := st; exact ⟨o, q o ho, r⟩
end
theorem vals_at {xs : List V} {its : List Value} (rv : Vals xs its) {j : Nat} {v : Value} (h : its[j]? = some v) : ∃ x, xs[j]? = some x ∧ RelV x v := by
  have hl := rv.length
  have hj := (List.getElem?_eq_some_iff.mp h).1
  obtain ⟨x, hx⟩ : ∃ x, xs[j]? = some x := ⟨_, List.getElem?_eq_getElem (by omega)⟩
  obtain ⟨u, hu, ru⟩ := rv.get hx
  rw [h] at hu
  cases hu
  exact ⟨x, hx, ru⟩
section
variable {X : Cx} {pins : List (Addr × Obj)} {σ : L2.St} {H : Hp} {s : Shared}
theorem Kd.draws (I : Inv X pins σ H s) (hh : X.A.in1.handled = none) {k : Kd} {xs : List V} (hq : k.has X.K H xs) {it : Addr} (hne : k.ap it) {tk : Tok} {i : Nat} (st : k.st tk it i s.heap) :
    ∃ (fp : List Addr) (P : Nat → Value → Prop) (St : Nat → Heap → Prop), Draws X.prog X.w X.A.in1 it fp xs.length P St ∧ St i s.heap ∧ (∀ j v, P j v → ∃ x, xs[j]? = some x ∧ RelV x v) ∧ (∀ j h, St j h → k.st tk it j h) ∧ it ∈ fp ∧ ∀ q ∈ fp, q = it ∨ ¬ k.ap q := by
  cases k with
  | l a =>
    obtain ⟨its, rv, p, _⟩ := I.list hq
    have e : its.toArray.size = xs.length := by rw [List.size_toArray]; exact rv.length.symm
    have D := Draws.list (prog := X.prog) (w := X.w) hh it a hne its.toArray
    rw [e] at D
    refine ⟨_, _, _, D, ⟨st, p.isList⟩, fun j v hv => vals_at rv (by simpa using hv), fun j h z => z.1, by simp, fun q hq => ?_⟩
    rcases List.mem_cons.mp hq with z | z
    · exact .inl z
    · exact .inr fun c => c (List.mem_singleton.mp z).symm
  | t a =>
    obtain ⟨its, rv, p, _⟩ := I.tuple hq
    have e : its.toArray.size = xs.length := by rw [List.size_toArray]; exact rv.length.symm
    have D := Draws.tuple (prog := X.prog) (w := X.w) hh it a hne its.toArray
    rw [e] at D
    refine ⟨_, _, _, D, ⟨st, p⟩, fun j v hv => vals_at rv (by simpa using hv), fun j h z => z.1, by simp, fun q hq => ?_⟩
    rcases List.mem_cons.mp hq with z | z
    · exact .inl z
    · exact .inr fun c => c (List.mem_singleton.mp z).symm
  | s z =>
    obtain rfl : xs = sgs z := hq
    have e : z.cps.size = (sgs z).length := by simp [sgs, cs]
    have D := Draws.text (prog := X.prog) (w := X.w) hh it z tk
    rw [e] at D
    refine ⟨_, _, _, D, st, fun j v hv => ?_, fun j h q => q, by simp, fun q hq => .inl (List.mem_singleton.mp hq)⟩
    obtain ⟨c, u, hc, rfl⟩ := hv
    refine ⟨.str ⟨#[c]⟩, ?_, u, rfl⟩
    show ((cs z).map _)[j]? = _
    rw [List.getElem?_map, show (cs z)[j]? = some c by rw [Array.getElem?_toList]; exact hc]
    rfl
theorem Kd.inj (I : Inv X pins σ H s) {k : Kd} {xs ys : List V} (h1 : k.has X.K H xs) (h2 : k.has X.K H ys) : xs = ys := by
  cases k with
  | l a => exact I.list_inj h1 h2
  | t a => exact I.tuple_inj h1 h2
  | s z => exact Eq.trans h1 (Eq.symm h2)
end
structure Ap (z TI TO i1 i2 : Addr) (k1 k2 : Kd) : Prop where
  TIz : TI ≠ z
  TOz : TO ≠ z
  i1z : i1 ≠ z
  i2z : i2 ≠ z
  TITO : TI ≠ TO
  TIi1 : TI ≠ i1
  TIi2 : TI ≠ i2
  TOi1 : TO ≠ i1
  TOi2 : TO ≠ i2
  i12 : i1 ≠ i2
  a1 : k1.ap z ∧ k1.ap TO ∧ k1.ap i1 ∧ k1.ap i2
  a2 : k2.ap z ∧ k2.ap TO ∧ k2.ap i1 ∧ k2.ap i2
theorem Ap.sep {z TI TO i1 i2 : Addr} {k1 k2 : Kd} (D : Ap z TI TO i1 i2 k1 k2) {fp1 fp2 : List Addr} (m1 : i1 ∈ fp1) (f1 : ∀ q ∈ fp1, q = i1 ∨ ¬ k1.ap q) (m2 : i2 ∈ fp2) (f2 : ∀ q ∈ fp2, q = i2 ∨ ¬ k2.ap q) : ZipSep2 z TI TO i1 i2 fp1 fp2 where
  TIz := D.TIz
  TOz := D.TOz
  TITO := D.TITO
  TIi1 := D.TIi1
  mem1 := m1
  zf1 := fun h => (f1 z h).elim (fun e => D.i1z e.symm) fun n => n D.a1.1
  Tf1 := fun h => (f1 TO h).elim D.TOi1 fun n => n D.a1.2.1
  TIi2 := D.TIi2
  mem2 := m2
  zf2 := fun h => (f2 z h).elim (fun e => D.i2z e.symm) fun n => n D.a2.1
  Tf2 := fun h => (f2 TO h).elim D.TOi2 fun n => n D.a2.2.1
  sep1_2 := fun h => (f2 i1 h).elim D.i12 fun n => n D.a2.2.2.1
  sep2_1 := fun h => (f1 i2 h).elim (fun e => D.i12 e.symm) fun n => n D.a1.2.2.2
def ItzK (K : PySem.W.Frag) (k1 k2 : Kd) : It :=
  ⟨fun i H => ∃ xs ys : List V, k1.has K H xs ∧ k2.has K H ys ∧ i < xs.length ∧ i < ys.length,
    fun i H v H' => ∃ T x y, v = .ref T ∧ H T = none ∧ H' = upd H T (.tup [x, y]) ∧ (∀ xs, k1.has K H xs → xs[i]? = some x) ∧ ∀ ys, k2.has K H ys → ys[i]? = some y,
    fun i H => ∃ xs ys : List V, k1.has K H xs ∧ k2.has K H ys ∧ i ≤ xs.length ∧ i ≤ ys.length ∧ (i = xs.length ∨ i = ys.length)⟩
theorem turn_zipK {P : Program} {w : World} {K : PySem.W.Frag} {elts : List Expr} {kk : Nat} {tpos : Pos} {k1 k2 : Kd} {tk1 tk2 : Tok} {z TI TO i1 i2 : Addr} (D : Ap z TI TO i1 i2 k1 k2) :
    Turn P w K (.Tuple elts kk tpos) (ItzK K k1 k2) [z, TI, TO, i1, i2] z (fun i h => IsZip h z TI TO .none ∧ IsTupOf2 h TI (.ref i1) (.ref i2) ∧ (∃ x y, IsTupOf2 h TO x y) ∧ k1.st tk1 i1 i h ∧ k2.st tk2 i2 i h) where
  mem := by simp
  obj := fun i h st c hc => by
    obtain ⟨hz, hTI, ⟨x, y, hTO⟩, s1, s2⟩ := st
    have e' : c = z ∨ c = TI ∨ c = TO ∨ c = i1 ∨ c = i2 := by simpa using hc
    rcases e' with q | q | q | q | q
    · rw [q]; exact ⟨_, hz, fun v q => nomatch q⟩
    · rw [q]; exact ⟨_, hTI, fun v q => nomatch q⟩
    · rw [q]; exact ⟨_, hTO, fun v q => nomatch q⟩
    · rw [q]; exact Kd.st_obj s1
    · rw [q]; exact Kd.st_obj s2
  keep := fun i h h' st k => by
    obtain ⟨hz, hTI, ⟨x, y, hTO⟩, h1, h2⟩ := st
    exact ⟨k z (by simp) _ hz, k TI (by simp) _ hTI, ⟨x, y, k TO (by simp) _ hTO⟩, Kd.st_keep h1 fun o q => k i1 (by simp) o q, Kd.st_keep h2 fun o q => k i2 (by simp) o q⟩
  item := by
    intro X hP hw hK hc i pins s σ H E I hf st hg
    subst hP hw hK
    obtain ⟨hz, hTI, ⟨x0, y0, hTO⟩, h1, h2⟩ := st
    obtain ⟨xs, ys, hqx, hqy, hx, hy⟩ := hg
    have hh : X.A.in1.handled = none := I.ok.hd hc
    obtain ⟨fp1, P1, St1, D1, st1, g1, b1, m1, f1⟩ := Kd.draws I hh hqx D.a1.2.2.1 h1
    obtain ⟨fp2, P2, St2, D2, st2, g2, b2, m2, f2⟩ := Kd.draws I hh hqy D.a2.2.2.2 h2
    have S := D.sep m1 f1 m2 f2
    have hzl : z < s.heap.objs.size := Heap.lt_size hz
    refine wpAny_pyNext_zipD2_item S D1 D2 hz hTI hTO st1 st2 hx hy fun u u2 h' tk p1 p2 z' TO' s1' s2' hT hsz hk => ?_
    obtain ⟨x, hxx, ru⟩ := g1 _ _ p1
    obtain ⟨y, hyy, ru2⟩ := g2 _ _ p2
    refine ⟨_, rfl, wpAny_letOwnedTupleGo_zip (s := { s with heap := h', toks := tk }) z' fun h'' z'' sb => ?_⟩
    have hT2 : h''.get? s.heap.objs.size = some { cls := .type "tuple", data := .seq #[u, u2] } := (sb.2 _ (Nat.ne_of_gt hzl)).trans hT
    have new : ObjOk X.prog X.w (upd H s.heap.objs.size (.tup [x, y])) h'' s.heap.objs.size (.tup [x, y]) :=
      ⟨by show 2 ≤ sizeLine; decide, [u, u2], .cons ru (.cons ru2 .nil), ⟨_, hT2, rfl, _, rfl⟩⟩
    have I1 : Inv X pins σ (upd H s.heap.objs.size (.tup [x, y])) { s with heap := h'', toks := tk } :=
      I.turnedNew (t' := tk) (ch := [z, TI, TO, i1, i2]) (fun c o hb q => (sb.2 c (fun q' => hb (by simp [q']))).trans (hk c o (fun q' => hb (by simp [q'])) (fun q' => hb (by simp [q'])) (fun q' => hb (by simp [q'])) (fun q' => hb (by simp [q'])) q)) hf (Nat.le_refl _) new
    refine ⟨.ref s.heap.objs.size, _, I1, rfl, ⟨_, x, y, rfl, I.hok.fresh (Nat.le_refl _), rfl, fun l hl => by rw [Kd.inj I hl hqx]; exact hxx, fun l hl => by rw [Kd.inj I hl hqy]; exact hyy⟩, ⟨z'', ?_, ⟨u, u2, ?_⟩, ?_, ?_⟩, fun c hcm => ?_⟩
    · exact (sb.2 _ D.TIz).trans (hk _ _ D.TIz D.TITO D.TIi1 D.TIi2 hTI)
    · exact (sb.2 _ D.TOz).trans TO'
    · exact Kd.st_keep (b1 _ _ s1') fun o q => (sb.2 _ D.i1z).trans q
    · exact Kd.st_keep (b2 _ _ s2') fun o q => (sb.2 _ D.i2z).trans q
    · have hlt : c < s.heap.objs.size := by
        have e' : c = z ∨ c = TI ∨ c = TO ∨ c = i1 ∨ c = i2 := by simpa using hcm
        rcases e' with q | q | q | q | q
        · rw [q]; exact hzl
        · rw [q]; exact Heap.lt_size hTI
        · rw [q]; exact Heap.lt_size hTO
        · rw [q]; obtain ⟨_, e1, _⟩ := Kd.st_obj h1; exact Heap.lt_size e1
        · rw [q]; obtain ⟨_, e2, _⟩ := Kd.st_obj h2; exact Heap.lt_size e2
      rw [upd_ne (Nat.ne_of_lt hlt)]
      exact (hf c hcm).1
  done := by
    intro X hP hw hK hc i pins s σ H E I hf st hg
    subst hP hw hK
    obtain ⟨hz, hTI, ⟨x0, y0, hTO⟩, h1, h2⟩ := st
    obtain ⟨xs, ys, hqx, hqy, l1, l2, hend⟩ := hg
    have hh : X.A.in1.handled = none := I.ok.hd hc
    obtain ⟨fp1, P1, St1, D1, st1, g1, b1, m1, f1⟩ := Kd.draws I hh hqx D.a1.2.2.1 h1
    obtain ⟨fp2, P2, St2, D2, st2, g2, b2, m2, f2⟩ := Kd.draws I hh hqy D.a2.2.2.2 h2
    have S := D.sep m1 f1 m2 f2
    exact wpAny_pyNext_zipD2_end S D1 D2 hz hTI hTO st1 st2 l1 l2 hend fun h' tk hk => ⟨rfl, I.turnedL (t' := tk) (ch := [z, TI, TO, i1, i2]) (fun c o hb q =>
      hk c o (fun q' => hb (by simp [q'])) (fun q' => hb (by simp [q'])) (fun q' => hb (by simp [q'])) (fun q' => hb (by simp [q'])) q) hf⟩
  self := fun A i s Q E st h => wpAny_pyIter_zip st.1 h
/-- how it begins -/
theorem Kd.begins {X : Cx} {pins : List (Addr × Obj)} {σ : L2.St} {H : Hp} {s : Shared} (I : Inv X pins σ H s) {k : Kd} {xs : List V} (hq : k.has X.K H xs) {u : Value} (r : RelV k.v u) :
    ∃ (o : Obj) (HH : Heap → Prop) (tk : Tok), Begins u o HH ∧ HH s.heap ∧ (∀ it h', h'.get? it = some o → k.st tk it 0 h') ∧ ∀ q, s.heap.objs.size ≤ q → k.ap q := by
  cases k with
  | l a =>
    obtain rfl : u = Value.ref a := r
    obtain ⟨its, rv, p, _⟩ := I.list hq
    exact ⟨_, _, 0, begins_list a its.toArray, p.isList, fun it h' e => ⟨_, e, rfl, rfl⟩, fun q hq e => by rw [← e] at hq; exact absurd p.lt (Nat.not_lt.mpr hq)⟩
  | t a =>
    obtain rfl : u = Value.ref a := r
    obtain ⟨its, rv, p, _⟩ := I.tuple hq
    obtain ⟨o1, ho1, _⟩ := id p
    exact ⟨_, _, 0, begins_tuple a its.toArray, p, fun it h' e => ⟨_, e, rfl, rfl⟩, fun q hq e => by rw [← e] at hq; exact absurd (Heap.lt_size ho1) (Nat.not_lt.mpr hq)⟩
  | s z =>
    obtain ⟨t, rfl⟩ := r
    exact ⟨_, _, t, begins_text z t, trivial, fun it h' e => ⟨_, e, rfl, rfl⟩, fun _ _ => trivial⟩
theorem ne_nat {a b : Nat} (h : a ≠ b) : @Ne Addr a b := h
def iZipK (K : PySem.W.Frag) (ta : TA) : TI := fun σ H R => ta σ H fun vs H1 => ∃ k1 k2 : Kd, vs = [k1.v, k2.v] ∧ (∃ xs, k1.has K H1 xs) ∧ (∃ ys, k2.has K H1 ys) ∧ R (ItzK K k1 k2) H1
theorem pi_zipK {X : Cx} {e e2 : Expr} {ta : TA} {p pos tpos : Pos} {elts : List Expr} {kk : Nat} (hg : Gl X "zip") (hm : X.mg "zip" = none) (ha : PA X [e, e2] ta)
    (hs : starEach [e, e2] X.env = (false, eval e X.env) :: starEach [e2] X.env := by rfl) (hpl : (backTo pos (starEach [e2] X.env)).any (·.1) = false := by rfl) :
    PI X (.Tuple elts kk tpos) (.Call (.Name "zip" p) [e, e2] [] pos) (iZipK X.K ta) := by
  refine ⟨fun pins s σ H R I h => ?_⟩
  refine Call_ (ld_blt I hg hm PyProof.Rows.boot_zip (PyProof.Rows.callWith_type1 (thn (ha.run pos pins s σ H _ I h) fun us s1 ⟨vs, H1, I1, r1, q1⟩ => ?_) hs hpl))
  obtain ⟨k1, k2, ex, ⟨xs, hx⟩, ⟨ys, hy⟩, q⟩ := q1
  subst ex
  cases r1 with
  | cons r rr =>
    cases rr with
    | cons r' rr =>
      cases rr
      obtain ⟨o1, HH1, tk1, B1, g1, st1, ap1⟩ := Kd.begins I1 hx r
      obtain ⟨o2, HH2, tk2, B2, g2, st2, ap2⟩ := Kd.begins I1 hy r'
      refine zip_begins2 B1 B2 g1 g2 fun h' hz hTI hTO h1 h2 hsz hk => wpAny_pyIter_zip hz ?_
      have I2 : Inv X pins σ H1 { s1 with heap := h' } := I1.kept (t' := s1.toks) hk
      have fresh5 : ∀ c, c ∈ [s1.heap.objs.size + 4, s1.heap.objs.size + 2, s1.heap.objs.size + 3, s1.heap.objs.size, s1.heap.objs.size + 1] → FpOk X pins H1 c := fun c hcm => by
        have hle : s1.heap.objs.size ≤ c := by
          have e' : c = s1.heap.objs.size + 4 ∨ c = s1.heap.objs.size + 2 ∨ c = s1.heap.objs.size + 3 ∨ c = s1.heap.objs.size ∨ c = s1.heap.objs.size + 1 := by simpa using hcm
          omega
        exact I1.fpOk hle (I1.hok.fresh hle)
      have ap : Ap (s1.heap.objs.size + 4) (s1.heap.objs.size + 2) (s1.heap.objs.size + 3) s1.heap.objs.size (s1.heap.objs.size + 1) k1 k2 :=
        ⟨ne_nat (by omega), ne_nat (by omega), ne_nat (by omega), ne_nat (by omega), ne_nat (by omega), ne_nat (by omega), ne_nat (by omega), ne_nat (by omega), ne_nat (by omega), ne_nat (by omega), ⟨ap1 _ (by omega), ap1 _ (by omega), ap1 _ (by omega), ap1 _ (by omega)⟩, ⟨ap2 _ (by omega), ap2 _ (by omega), ap2 _ (by omega), ap2 _ (by omega)⟩⟩
      exact ⟨s1.heap.objs.size + 4, [s1.heap.objs.size + 4, s1.heap.objs.size + 2, s1.heap.objs.size + 3, s1.heap.objs.size, s1.heap.objs.size + 1], _, _, H1, rfl, I2, turn_zipK (tk1 := tk1) (tk2 := tk2) ap, ⟨hz, hTI, ⟨_, _, hTO⟩, st1 _ _ h1, st2 _ _ h2⟩, fresh5, q⟩
/-! as walks -/
theorem walk_zipK {K : PySem.W.Frag} {k1 k2 : Kd} {xs ys : List V} {n : Nat} (hn : n = min xs.length ys.length) :
    Walk (ItzK K k1 k2) n (fun H => k1.has K H xs ∧ k2.has K H ys) (fun i H v H' => ∃ T x y, v = .ref T ∧ H T = none ∧ H' = upd H T (.tup [x, y]) ∧ xs[i]? = some x ∧ ys[i]? = some y) :=
  ⟨fun i H hi g => ⟨xs, ys, g.1, g.2, by omega, by omega⟩, fun H g => ⟨xs, ys, g.1, g.2, by omega, by omega, by omega⟩, fun i H v H' hi g y => by
    obtain ⟨T, x, y, h1, h2, h3, h4, h5⟩ := y
    exact ⟨T, x, y, h1, h2, h3, h4 xs g.1, h5 ys g.2⟩⟩
end Zp

/-! rules of our own: text[::-1], min of a list of tuples of numbers -/
namespace Dk
open PySem PySem.Spec PyProof.Rows L2 PySem.SeqAt PySem.W
/-! text[::-1] -/
def revS (z : Str) : Str := ⟨(cs z).reverse.toArray⟩
theorem cs_rev (z : Str) : cs (revS z) = (cs z).reverse := List.toList_toArray
theorem rev_len (z : Str) : (revS z).length = z.length := by rw [← cs_len, cs_rev, List.length_reverse, cs_len]
theorem rev_made (z : Str) (t u : Tok) : sliceMade z t none none (some (-1, u)) = Made.str (revS z) := by
  have e : slicePicked z none none (some (-1, u)) = (List.range z.length).reverse := by
    show sliceRange ((z.length : Int) - 1) (-1) (-1) = _
    rw [krv_sliceRange, krv_range]
  unfold sliceMade
  rw [e]
  have e2 : ((Option.map (fun x => x.1) (some ((-1 : Int), u))).getD 1 == 1 && ((List.range z.length).reverse.length == z.length)) = false := by
    have : ((-1 : Int) == 1) = false := by decide
    show (((-1 : Int) == 1) && _) = false
    rw [this, Bool.false_and]
  rw [if_neg (by rw [e2]; exact Bool.false_ne_true)]
  congr 1
  unfold revS
  congr 1
  have e3 : ((List.range z.length).reverse.filterMap (z.cps[·]?)) = (cs z).reverse := by
    rw [List.filterMap_reverse]
    congr 1
    exact krv_all z.cps
  rw [e3]
def tRevS (te : TE) : TE := fun σ H Q => te σ H fun x H1 => ∃ z, x = .str z ∧ z.length ≤ sizeLine ∧ Q (.str (revS z)) H1
theorem pe_revS {X : Cx} {e st : Expr} {te ts : TE} {pos p2 : Pos} (he : PE X e te) (hst : PE X st ts) (hv : ∀ σ H (Q : VK), Q (.int (-1)) H → ts σ H Q) : PE X (.Subscript e (.Slice none none (some st) p2) pos) (tRevS te) := by
  refine ⟨fun pins s σ H Q I h => ?_⟩
  refine Subscript_ (thn (he.run pins s σ H _ I h) fun v s1 ⟨x, H1, I1, r1, q1⟩ => ?_)
  obtain ⟨z, rfl, hz, q⟩ := q1
  obtain ⟨t, rfl⟩ := r1
  refine wpAny_Slice ?_
  rw [evalPart_none]
  refine wpAny_pure ?_
  refine wpAny_pure ?_
  rw [evalPart_some]
  refine thn (hst.run pins s1 σ H1 _ I1 (hv σ H1 (fun y H2 => y = .int (-1) ∧ H2 = H1) ⟨rfl, rfl⟩)) fun u s2 ⟨y, H2, I2, ry, qy, eH⟩ => ?_
  subst qy eH
  obtain ⟨tk, rfl⟩ := ry
  have I3 : Inv X pins σ H2 { s2 with heap := s2.heap.push { cls := .type "slice", data := .fields #[.none, .none, .int (-1) tk] } } := I2.kept (t' := s2.toks) fun b ob q => Heap.get?_push_of_some _ q
  show wpAny (model X.prog X.w) X.A (subscriptTail e (.Slice none none (some st) p2) (.str z t) (.ref s2.heap.objs.size)) (EP X pins σ Q) X.xe { s2 with heap := s2.heap.push { cls := .type "slice", data := .fields #[.none, .none, .int (-1) tk] } }
  refine tail_any (ops := [.ref s2.heap.objs.size, .str z t]) (typeIs_str _ z t) F.slot_str_getitem.lookup ?_ (by with_unfolding_all rfl)
  refine wpAny_getItem_str_slice (l := none) (u := none) (st := some (-1, tk)) ⟨_, Heap.get?_push_size _ rfl, rfl, rfl⟩ rfl ?_
  rw [rev_made]
  exact ⟨by rw [rev_len]; exact hz, .str _, H2, I3.tok _, ⟨_, rfl⟩, q⟩
theorem r_revS {te : TE} {σ : L2.St} {H : Hp} {Q : VK} (h : te σ H fun x H1 => ∃ z, x = .str z ∧ z.length ≤ sizeLine ∧ Q (.str (revS z)) H1) : tRevS te σ H Q := h
theorem r_revZ {z : Str} {H : Hp} {Q : VK} (hz : z.length ≤ 8000) (q : Q (.str (revS z)) H) : ∃ y, V.str z = .str y ∧ y.length ≤ sizeLine ∧ Q (.str (revS y)) H := ⟨z, rfl, by rw [sizeLine_eq]; omega, q⟩
/-! zip -/
theorem r_forZo {K : PySem.W.Frag} {ta : TA} {g : TG} {tb : TS} {D : Ends} {σ : L2.St} {H : Hp} (h : ta σ H fun vs H1 => ∃ k1 k2 : Zp.Kd, vs = [k1.v, k2.v] ∧ (∃ xs, k1.has K H1 xs) ∧ (∃ ys, k2.has K H1 ys) ∧ LoopW (Zp.ItzK K k1 k2) g tb D σ H1) : tFor (Zp.iZipK K ta) g tb D σ H := h
theorem sgs_at {z : Str} {i : Nat} {x : V} (h : (Zp.sgs z)[i]? = some x) : ∃ c, (cs z)[i]? = some c ∧ x = .str ⟨#[c]⟩ := by
  rw [List.getElem?_map] at h
  obtain ⟨c, hc, rfl⟩ := Option.map_eq_some_iff.mp h
  exact ⟨c, hc, rfl⟩
/-- over zip(text, text) -/
theorem l_ZS {K : PySem.W.Frag} {x y : Str} {g : TG} {tb : TS} {D : Ends} {σ : L2.St} {H : Hp} (Pv : Nat → L2.St → Hp → Prop) (p0 : Pv 0 σ H)
    (ht : ∀ i c d σ H p, (cs x)[i]? = some c → (cs y)[i]? = some d → Pv i σ H → H p = none → g (.ref p) σ (upd H p (.tup [.str ⟨#[c]⟩, .str ⟨#[d]⟩])) fun σ2 H2 => tb { D with nx := Pv (i + 1), ct := Pv (i + 1), bk := D.nx } σ2 H2)
    (hd : ∀ σ H, Pv (min x.length y.length) σ H → D.nx σ H) :
    ∃ k1 k2 : Zp.Kd, [V.str x, V.str y] = [k1.v, k2.v] ∧ (∃ xs, k1.has K H xs) ∧ (∃ ys, k2.has K H ys) ∧ LoopW (Zp.ItzK K k1 k2) g tb D σ H := by
  refine ⟨.s x, .s y, rfl, ⟨_, rfl⟩, ⟨_, rfl⟩, for_it (Zp.walk_zipK (xs := Zp.sgs x) (ys := Zp.sgs y) rfl) Pv p0 (fun _ _ _ _ _ => ⟨rfl, rfl⟩) (fun i v σ H H' hi p yy => ?_) fun σ H p => hd σ H ?_⟩
  · obtain ⟨T, a, b, rfl, hT, rfl, ha, hb⟩ := yy
    obtain ⟨c, hc, rfl⟩ := sgs_at ha
    obtain ⟨d, hd', rfl⟩ := sgs_at hb
    exact ht i c d σ H T hc hd' p hT
  · rw [List.length_map, List.length_map, cs_len, cs_len] at p
    exact p
/-! min of a list of data -/
section
variable {prog : Program} {w : World} {A : Around} {E : Value → Shared → Prop} {s : Shared}
theorem min_list_at {l : Addr} {vs : Array Value} {xs : List PyData} {as : List Addr} {Q : Value → Shared → Prop} (hh : A.handled = none) (hl : s.heap.IsList l vs) (hr : ReadsAll s.heap vs.toList xs as) (h0 : 0 < xs.length) (ha : AlikeAll xs) (hu : A.units + 1 + PyData.depthAll xs < cLine)
    (h : ∀ v h' tk, vs[argBest (fun i j => dataLt (xs.getD i .none) (xs.getD j .none)) (xs.length - 1)]? = some v → (∀ b o, s.heap.get? b = some o → h'.get? b = some o) → Q v { s with heap := h', toks := tk }) :
    wpAny (model prog w) A (call (.builtin "min") [.ref l]) Q E s := by
  have hn : vs.size = xs.length := readsAll_len hr
  refine call_min_walkH (iter_listW (A := A.in1) hh hl fun s₂ e W st hfp hw hk => ?_)
  refine ⟨_, _, _, _, _, _, _, s.heap, _, rfl, W, st, hfp, by omega, hw, hk, cmpIn_lt (A := A.in1) hr ha (by show A.units + 1 + _ < _; exact hu), fun v s' hP m => ?_⟩
  obtain ⟨h', tk, rfl, hk'⟩ := moved_old e rfl m
  rw [hn] at hP
  exact h v h' tk hP hk'
end
theorem dpall_reads {X : Cx} {pins : List (Addr × Obj)} {σ : L2.St} {H : Hp} {s : Shared} (I : Inv X pins σ H s) : ∀ {xs : List V} {ds : List PyData} {its : List Value}, DpAll X.K H xs ds → Vals xs its → ∃ as, ReadsAll s.heap its ds as
  | _, _, _, .nil, .nil => ⟨_, .nil⟩
  | _, _, _, .cons h t, .cons r q => by
    obtain ⟨as, r1⟩ := Dp.reads I _ _ _ h r
    obtain ⟨bs, r2⟩ := dpall_reads I t q
    exact ⟨_, .cons r1 r2⟩
def rMinLs (K : PySem.W.Frag) : List V → Hp → VK → Prop := fun vs H Q => ∃ (p : Addr) (xs : List V) (ds : List PyData), vs = [.ref p] ∧ SqL K H p xs ∧ DpAll K H xs ds ∧ 0 < ds.length ∧ AlikeAll ds ∧ PyData.depthAll ds ≤ 60 ∧
  ∀ v, xs[argBest (fun i j => dataLt (ds.getD i .none) (ds.getD j .none)) (ds.length - 1)]? = some v → Q v H
theorem call_minLs {X : Cx} (hc : X.calm = true) (hu : X.A.units + 65 < cLine) : CallR X (.builtin "min") (rMinLs X.K) := by
  intro pins s σ H vs us Q I r h
  obtain ⟨p, xs, ds, rfl, hp, hd, h0, ha, hz, q⟩ := h
  rw [Vals.ref1 r]
  obtain ⟨its, rv, hl, _⟩ := I.list hp
  obtain ⟨as, hr⟩ : ∃ as, ReadsAll s.heap its ds as := dpall_reads I hd rv
  refine min_list_at (I.ok.hd hc) hl.isList (by simpa using hr) h0 ha (by omega) fun v h' tk hv k => ?_
  obtain ⟨x, hx, rx⟩ := Zp.vals_at rv (by simpa using hv)
  exact ⟨x, H, I.kept k, rx, q x hx⟩
/-- the best by a transitive relation: none is less -/
theorem best_least {bt : Nat → Nat → Bool} (tr : ∀ i j k, bt i j = true → bt j k = true → bt i k = true) (irr : ∀ i, bt i i = false) : ∀ n, argBest bt n ≤ n ∧ ∀ j, j ≤ n → bt j (argBest bt n) = false
  | 0 => ⟨Nat.le_refl _, fun j hj => by
    have e : j = 0 := by omega
    subst e
    exact irr 0⟩
  | n + 1 => by
    obtain ⟨h1, h2⟩ := best_least tr irr n
    show (if bt (n + 1) (argBest bt n) = true then n + 1 else argBest bt n) ≤ n + 1 ∧ ∀ j, j ≤ n + 1 → bt j (if bt (n + 1) (argBest bt n) = true then n + 1 else argBest bt n) = false
    by_cases c : bt (n + 1) (argBest bt n) = true
    · rw [if_pos c]
      refine ⟨Nat.le_refl _, fun j hj => ?_⟩
      by_cases e : j = n + 1
      · subst e
        exact irr _
      · cases d : bt j (n + 1) with
        | false => rfl
        | true =>
          have z := tr j (n + 1) _ d c
          rw [h2 j (by omega)] at z
          cases z
    · rw [if_neg c]
      refine ⟨by omega, fun j hj => ?_⟩
      by_cases e : j = n + 1
      · subst e
        simpa using c
      · exact h2 j (by omega)
theorem lt_ints (a b : Int) (xs ys : List PyData) : dataLt (.tuple (.int a :: xs)) (.tuple (.int b :: ys)) = if a = b then dataLt (.tuple xs) (.tuple ys) else decide (a < b) := by
  rw [dataLt_tuple]
  show PyProof.Rows.lexLt itemOrd ([.inl 1] ++ (keyToks (.int a) ++ keyToksAll xs)) ([.inl 1] ++ (keyToks (.int b) ++ keyToksAll ys)) = _
  rw [lex_pre]
  by_cases h : a = b
  · subst h
    rw [lex_pre, if_pos rfl, dataLt_tuple]
  · rw [if_neg h]
    show PyProof.Rows.lexLt itemOrd (.inl a :: keyToksAll xs) (.inl b :: keyToksAll ys) = _
    rw [lex_atom (by intro z; exact h (Sum.inl.inj z))]
    exact dataLt_int a b
/-! four numbers -/
abbrev Q4 := Int × Int × Int × Int
abbrev q4D (x : Q4) : PyData := .tuple [.int x.1, .int x.2.1, .int x.2.2.1, .int x.2.2.2]
def q4Lt (x y : Q4) : Prop := x.1 < y.1 ∨ (x.1 = y.1 ∧ (x.2.1 < y.2.1 ∨ (x.2.1 = y.2.1 ∧ (x.2.2.1 < y.2.2.1 ∨ (x.2.2.1 = y.2.2.1 ∧ x.2.2.2 < y.2.2.2)))))
theorem q4_lt (x y : Q4) : dataLt (q4D x) (q4D y) = true ↔ q4Lt x y := by
  unfold q4Lt
  show dataLt (.tuple (.int x.1 :: _)) (.tuple (.int y.1 :: _)) = true ↔ _
  rw [lt_ints]
  by_cases h1 : x.1 = y.1
  · rw [if_pos h1, lt_ints]
    by_cases h2 : x.2.1 = y.2.1
    · rw [if_pos h2, lt_ints]
      by_cases h3 : x.2.2.1 = y.2.2.1
      · rw [if_pos h3, lt_ints]
        by_cases h4 : x.2.2.2 = y.2.2.2
        · rw [if_pos h4]
          have e : dataLt (.tuple []) (.tuple []) = false := by decide +kernel
          rw [e]
          constructor
          · intro z
            cases z
          · intro z
            omega
        · rw [if_neg h4, decide_eq_true_iff]
          omega
      · rw [if_neg h3, decide_eq_true_iff]
        omega
    · rw [if_neg h2, decide_eq_true_iff]
      omega
  · rw [if_neg h1, decide_eq_true_iff]
    omega
def Q4V (H : Hp) (v : V) (x : Q4) : Prop := ∃ p, v = .ref p ∧ H p = some (.tup [.int x.1, .int x.2.1, .int x.2.2.1, .int x.2.2.2])
instance : Imm Q4V := ⟨fun t h => h.imp fun p z => ⟨z.1, t _ _ z.2⟩⟩
theorem Q4V.dp {K : PySem.W.Frag} {H : Hp} {v : V} {x : Q4} (h : Q4V H v x) : Dp K H v (q4D x) := by
  obtain ⟨p, rfl, hp⟩ := h
  exact .tup (sqT hp) (.cons (.int _) (.cons (.int _) (.cons (.int _) (.cons (.int _) .nil))))
theorem q4_dps {K : PySem.W.Frag} {H : Hp} {xs : List V} {l : List Q4} (h : P2 (Q4V H) xs l) : DpAll K H xs (l.map q4D) := by
  induction h with
  | nil => exact .nil
  | cons h t ih => exact .cons (Q4V.dp h) ih
/-- min(l), l a list of tuples of four numbers -/
theorem r_minQ4 {K : PySem.W.Frag} {H : Hp} {Q : VK} {p : Addr} {xs : List V} {l : List Q4} (hp : H p = some (.lst xs)) (h : P2 (Q4V H) xs l) (h0 : 0 < l.length) (q : ∀ v x, Q4V H v x → x ∈ l → (∀ y ∈ l, ¬ q4Lt y x) → Q v H) : rMinLs K [.ref p] H Q := by
  have dep : PyData.depthAll (l.map q4D) ≤ 60 := by
    clear h0 q h
    induction l with
    | nil => decide
    | cons x r ih =>
      show max (q4D x).depth (PyData.depthAll (r.map q4D)) ≤ 60
      have e : (q4D x).depth ≤ 2 := by simp [q4D, PyData.depth, PyData.depthAll]
      omega
  refine ⟨p, xs, l.map q4D, rfl, sqL hp, q4_dps h, by rw [List.length_map]; exact h0, ⟨fun a ha b hb => ?_, fun a ha z => ?_⟩, dep, fun v hv => ?_⟩
  · obtain ⟨x, _, rfl⟩ := List.mem_map.mp ha
    obtain ⟨y, _, rfl⟩ := List.mem_map.mp hb
    rfl
  · obtain ⟨x, _, rfl⟩ := List.mem_map.mp ha
    cases z
  · rw [List.length_map] at hv
    obtain ⟨x, hx, sx⟩ := h.get hv
    have gd : ∀ {i : Nat} {y : Q4}, l[i]? = some y → (l.map q4D).getD i .none = q4D y := fun {i y} e => by
      rw [List.getD_eq_getElem?_getD, List.getElem?_map, e]; rfl
    have at_ : ∀ i, i < l.length → ∃ y, l[i]? = some y := fun i hi => ⟨_, List.getElem?_eq_getElem hi⟩
    have lt0 : ∀ i, l.length ≤ i → (l.map q4D).getD i .none = PyData.none := fun i hi => by
      rw [List.getD_eq_getElem?_getD, List.getElem?_eq_none (by rw [List.length_map]; exact hi)]; rfl
    refine q v x sx (List.mem_of_getElem? hx) fun y hy hlt => ?_
    obtain ⟨j, hj⟩ := List.getElem?_of_mem hy
    have hjl := (List.getElem?_eq_some_iff.mp hj).1
    -- the best is least: by walking along
    have key : ∀ n, n < l.length → ∃ b, l[argBest (fun i j => dataLt ((l.map q4D).getD i .none) ((l.map q4D).getD j .none)) n]? = some b ∧ ∀ j y, j ≤ n → l[j]? = some y → ¬ q4Lt y b := by
      intro n
      induction n with
      | zero =>
        intro hn
        obtain ⟨b, hb⟩ := at_ 0 hn
        refine ⟨b, hb, fun j y hj hy => ?_⟩
        have e : j = 0 := by omega
        subst e
        rw [hb] at hy
        rw [Option.some.inj hy]
        unfold q4Lt
        omega
      | succ n ih =>
        intro hn
        obtain ⟨b, hb, hmin⟩ := ih (by omega)
        obtain ⟨c, hc⟩ := at_ (n + 1) hn
        show ∃ b, l[if dataLt ((l.map q4D).getD (n + 1) .none) ((l.map q4D).getD (argBest _ n) .none) = true then n + 1 else argBest _ n]? = some b ∧ _
        rw [gd hc, gd hb]
        by_cases e : dataLt (q4D c) (q4D b) = true
        · rw [if_pos e]
          have e' := (q4_lt c b).mp e
          refine ⟨c, hc, fun j y hj hy h => ?_⟩
          by_cases ej : j = n + 1
          · subst ej
            rw [hc] at hy
            cases hy
            unfold q4Lt at h
            omega
          · refine hmin j y (by omega) hy ?_
            unfold q4Lt at h e' ⊢
            omega
        · rw [if_neg e]
          refine ⟨b, hb, fun j y hj hy h => ?_⟩
          by_cases ej : j = n + 1
          · subst ej
            rw [hc] at hy
            cases hy
            exact e ((q4_lt _ _).mpr h)
          · exact hmin j y (by omega) hy h
    obtain ⟨b, hb, hmin⟩ := key (l.length - 1) (by omega)
    rw [hx] at hb
    cases hb
    exact hmin j y (by omega) hj hlt
end Dk

/-! more rules: keywords of two, all of a list, list(zip), zips in comprehensions, tuple[::-1] -/
namespace Dk
open PySem PySem.Spec PyProof.Rows L2 PySem.SeqAt PySem.W
def q10 {α : Type} : List α → List α → List α
  | [], [a, b] => [b, a]
  | _, _ => []
theorem q10_rel {vs zs : List V} {us ws : List Value} (r : Vals vs us) (q : Vals zs ws) : Vals (q10 vs zs) (q10 us ws) := by
  cases r with
  | cons => exact .nil
  | nil => rcases q with _ | ⟨a, _ | ⟨b, _ | _⟩⟩
           · exact .nil
           · exact .nil
           · exact .cons b (.cons a .nil)
           · exact .nil
end Dk

/-! list(zip(a, b)), a and b each a list, a tuple or a text -/
namespace Zl
open PySem PySem.Spec PyProof.Rows L2 Dk Zp PySem.W
section
variable {prog : Program} {w : World} {A : Around} {E : Value → Shared → Prop} {s : Shared} {z TI TO T i1 i2 : Addr} {fp1 fp2 : List Addr} {f : Bool} {oT : Obj} {i n1 n2 : Nat} {P1 P2 : Nat → Value → Prop} {St1 St2 : Nat → Heap → Prop}
theorem next_item_held {Q : Value → Shared → Prop} (S : ZipSep2 z TI TO i1 i2 fp1 fp2) (D1 : Draws prog w A i1 fp1 n1 P1 St1) (D2 : Draws prog w A i2 fp2 n2 P2 St2)
    (hz : IsZipHeld s.heap z TI TO T f) (hT : s.heap.get? T = some oT) (hTI : IsTupOf2 s.heap TI (.ref i1) (.ref i2)) (st1 : St1 i s.heap) (st2 : St2 i s.heap) (hlt1 : i < n1) (hlt2 : i < n2)
    (hQ : ∀ x1 x2 h' tk, P1 i x1 → P2 i x2 → IsZipHeld h' z TI TO T true → St1 (i + 1) h' → St2 (i + 1) h' → IsTupOf2 h' s.heap.objs.size x1 x2 → h'.objs.size = s.heap.objs.size + 1 →
      (∀ c o, c ≠ z → c ≠ i1 → c ≠ i2 → s.heap.get? c = some o → h'.get? c = some o) → Q (.ref s.heap.objs.size) { s with heap := h', toks := tk }) :
    wpAny (model prog w) A (Builtin.«zip.__next__» ⟨[.ref z], []⟩) (fun fin s' => ∃ v, fin = .done (.ret v) ∧ Q v s') E s := by
  obtain ⟨hp, g, d, tk0, os⟩ := s
  show wpAny _ _ (field (.ref z) 2 >>= _) _ _ _
  refine wpAny_bind (wpAny_field hz rfl (x := .bool false) rfl ?_)
  show wpAny _ _ (field (.ref z) 3 >>= _) _ _ _
  refine wpAny_bind (wpAny_field hz rfl (x := .ref TI) rfl ?_)
  refine wpAny_bind (wpAny_seqItems hTI rfl ?_)
  show wpAny _ _ (Builtin.SmallTypes.ownedTupleIsFree (.ref z) >>= _) _ _ _
  refine wpAny_bind (wpAny_tupleHeld_zip hz hT fun h₁ hz₁ hs₁ => ?_)
  replace hs₁ : Heap.SameBut z hp h₁ := hs₁
  simp only [Bool.false_eq_true, if_false]
  refine wpAny_bind ?_
  rw [← Array.forIn_toList]
  simp only [List.forIn_cons, List.forIn_nil]
  refine wpAny_bind (wpAny_bind (wpAny_holding ?_))
  show wpAny _ _ (Builtin.SmallTypes.nextOf (.ref i1) >>= _) _ _ ⟨h₁, g, d, tk0, os⟩
  refine wpAny_bind (D1.item i _ _ _ hlt1 (D1.over st1 hs₁ S.zf1) fun x1 p1 tk1 hx1 sn1 hp1 => wpAny_pure ?_)
  replace hp1 : Heap.SameBut i1 h₁ p1 := hp1
  refine wpAny_pure ?_
  refine wpAny_bind (wpAny_bind (wpAny_holding ?_))
  show wpAny _ _ (Builtin.SmallTypes.nextOf (.ref i2) >>= _) _ _ ⟨p1, g, d, tk1, os⟩
  refine wpAny_bind (D2.item i _ _ _ hlt2 (D2.over (D2.over st2 hs₁ S.zf2) hp1 S.sep1_2) fun x2 p2 tk2 hx2 sn2 hp2 => wpAny_pure ?_)
  replace hp2 : Heap.SameBut i2 p1 p2 := hp2
  refine wpAny_pure (wpAny_pure ?_)
  show wpAny _ _ (newTuple [x1, x2] >>= _) _ _ ⟨p2, g, d, tk2, os⟩
  refine wpAny_bind (wpAny_newTuple ?_)
  have hsz : p2.objs.size = hp.objs.size := by rw [hp2.1, hp1.1, hs₁.1]
  have hz₃ : IsZipHeld p2 z TI TO T true := hp2.extBut _ _ S.zi2 (hp1.extBut _ _ S.zi1 hz₁)
  have hk : ∀ c o, c ≠ z → c ≠ i1 → c ≠ i2 → hp.get? c = some o → p2.get? c = some o := fun c o c1 c2 c3 e => hp2.extBut _ _ c3 (hp1.extBut _ _ c2 (hs₁.extBut _ _ c1 e))
  have hj1 : St1 (i + 1) p2 := D1.over sn1 hp2 S.sep2_1
  refine wpAny_pure ⟨_, rfl, ?_⟩
  show Q (.ref p2.objs.size) ⟨p2.push { cls := .type "tuple", data := .seq #[x1, x2] }, g, d, tk2, os⟩
  have up : ∀ c o, p2.get? c = some o → (p2.push { cls := .type "tuple", data := .seq #[x1, x2] }).get? c = some o := fun c o e => Heap.get?_push_of_some _ e
  have hpT : IsTupOf2 (p2.push { cls := .type "tuple", data := .seq #[x1, x2] }) p2.objs.size x1 x2 := Heap.get?_push_size _ rfl
  have hz4 : (p2.push { cls := .type "tuple", data := .seq #[x1, x2] }).objs.size = p2.objs.size + 1 := Heap.size_push ..
  rw [hsz] at hpT hz4 ⊢
  exact hQ x1 x2 _ tk2 hx1 hx2 (up _ _ hz₃) (D1.frame _ _ _ hj1 fun b _ o e => up b o e) (D2.frame _ _ _ sn2 fun b _ o e => up b o e) hpT hz4 fun c o c1 c2 c3 e => up c o (hk c o c1 c2 c3 e)
theorem next_end_held {Q : Fin → Shared → Prop} (S : ZipSep2 z TI TO i1 i2 fp1 fp2) (D1 : Draws prog w A i1 fp1 n1 P1 St1) (D2 : Draws prog w A i2 fp2 n2 P2 St2)
    (hz : IsZipHeld s.heap z TI TO T f) (hT : s.heap.get? T = some oT) (hTI : IsTupOf2 s.heap TI (.ref i1) (.ref i2)) (st1 : St1 i s.heap) (st2 : St2 i s.heap) (hle1 : i ≤ n1) (hle2 : i ≤ n2) (hend : i = n1 ∨ i = n2)
    (hE : ∀ h' tk e, (∀ c o, c ≠ z → c ≠ i1 → c ≠ i2 → s.heap.get? c = some o → h'.get? c = some o) → (∃ o, h'.get? e = some o ∧ o.cls = .type "StopIteration") → E (.ref e) { s with heap := h', toks := tk }) :
    wpAny (model prog w) A (Builtin.«zip.__next__» ⟨[.ref z], []⟩) Q E s := by
  obtain ⟨hp, g, d, tk0, os⟩ := s
  show wpAny _ _ (field (.ref z) 2 >>= _) _ _ _
  refine wpAny_bind (wpAny_field hz rfl (x := .bool false) rfl ?_)
  show wpAny _ _ (field (.ref z) 3 >>= _) _ _ _
  refine wpAny_bind (wpAny_field hz rfl (x := .ref TI) rfl ?_)
  refine wpAny_bind (wpAny_seqItems hTI rfl ?_)
  show wpAny _ _ (Builtin.SmallTypes.ownedTupleIsFree (.ref z) >>= _) _ _ _
  refine wpAny_bind (wpAny_tupleHeld_zip hz hT fun h₁ hz₁ hs₁ => ?_)
  replace hs₁ : Heap.SameBut z hp h₁ := hs₁
  simp only [Bool.false_eq_true, if_false]
  refine wpAny_bind ?_
  rw [← Array.forIn_toList]
  simp only [List.forIn_cons, List.forIn_nil]
  refine wpAny_bind (wpAny_bind (wpAny_holding ?_))
  show wpAny _ _ (Builtin.SmallTypes.nextOf (.ref i1) >>= _) _ _ ⟨h₁, g, d, tk0, os⟩
  by_cases hlt1 : i < n1
  · refine wpAny_bind (D1.item i _ _ _ hlt1 (D1.over st1 hs₁ S.zf1) fun x1 p1 tk1 hx1 sn1 hp1 => wpAny_pure ?_)
    replace hp1 : Heap.SameBut i1 h₁ p1 := hp1
    have hi2 : i = n2 := by omega
    refine wpAny_pure ?_
    refine wpAny_bind (wpAny_bind (wpAny_holding ?_))
    show wpAny _ _ (Builtin.SmallTypes.nextOf (.ref i2) >>= _) _ _ ⟨p1, g, d, tk1, os⟩
    refine wpAny_bind (D2.done ⟨p1, g, d, tk1, os⟩ _ _ (by rw [← hi2]; exact D2.over (D2.over st2 hs₁ S.zf2) hp1 S.sep1_2) fun q e hq he => ?_)
    replace hq : Heap.ExtBut i2 p1 q := hq
    exact hE q tk1 e (fun c o cz c1 c2 x => hq _ _ c2 (hp1.extBut _ _ c1 (hs₁.extBut _ _ cz x))) he
  · have hi1 : i = n1 := by omega
    refine wpAny_bind (D1.done ⟨h₁, g, d, tk0, os⟩ _ _ (by rw [← hi1]; exact D1.over st1 hs₁ S.zf1) fun q e hq he => ?_)
    replace hq : Heap.ExtBut i1 h₁ q := hq
    exact hE q tk0 e (fun c o cz c1 c2 x => hq _ _ c1 (hs₁.extBut _ _ cz x)) he
theorem pyNext_item_held {Q : Option Value → Shared → Prop} (S : ZipSep2 z TI TO i1 i2 fp1 fp2) (D1 : Draws prog w A.in1 i1 fp1 n1 P1 St1) (D2 : Draws prog w A.in1 i2 fp2 n2 P2 St2)
    (hz : IsZipHeld s.heap z TI TO T f) (hT : s.heap.get? T = some oT) (hTI : IsTupOf2 s.heap TI (.ref i1) (.ref i2)) (st1 : St1 i s.heap) (st2 : St2 i s.heap) (hlt1 : i < n1) (hlt2 : i < n2)
    (hQ : ∀ x1 x2 h' tk, P1 i x1 → P2 i x2 → IsZipHeld h' z TI TO T true → St1 (i + 1) h' → St2 (i + 1) h' → IsTupOf2 h' s.heap.objs.size x1 x2 → h'.objs.size = s.heap.objs.size + 1 →
      (∀ c o, c ≠ z → c ≠ i1 → c ≠ i2 → s.heap.get? c = some o → h'.get? c = some o) → Q (some (.ref s.heap.objs.size)) { s with heap := h', toks := tk }) :
    wpAny (model prog w) A (pyNext (.ref z)) Q E s := by
  have hTy : s.TypeIs (.ref z) "zip" := ⟨_, hz, rfl⟩
  unfold pyNext
  exact wpAny_bind (wpAny_attempt (wpAny_callSpecial?_slot (name := Str.ofString "__next__") hTy F.slot_zip_next
    (wpAny_call_entry F.slot_zip_next hTy F.entry_zip_next
      (next_item_held S D1 D2 hz hT hTI st1 st2 hlt1 hlt2 fun x1 x2 h' tk y1 y2 b1 d1 d2 b5 b6 b7 => wpAny_pure (hQ x1 x2 h' tk y1 y2 b1 d1 d2 b5 b6 b7)) (F.args_zip_next_1 _))))
theorem pyNext_end_held {Q : Option Value → Shared → Prop} (S : ZipSep2 z TI TO i1 i2 fp1 fp2) (D1 : Draws prog w A.in1 i1 fp1 n1 P1 St1) (D2 : Draws prog w A.in1 i2 fp2 n2 P2 St2)
    (hz : IsZipHeld s.heap z TI TO T f) (hT : s.heap.get? T = some oT) (hTI : IsTupOf2 s.heap TI (.ref i1) (.ref i2)) (st1 : St1 i s.heap) (st2 : St2 i s.heap) (hle1 : i ≤ n1) (hle2 : i ≤ n2) (hend : i = n1 ∨ i = n2)
    (hQ : ∀ h' tk, (∀ c o, c ≠ z → c ≠ i1 → c ≠ i2 → s.heap.get? c = some o → h'.get? c = some o) → Q none { s with heap := h', toks := tk }) : wpAny (model prog w) A (pyNext (.ref z)) Q E s := by
  have hTy : s.TypeIs (.ref z) "zip" := ⟨_, hz, rfl⟩
  unfold pyNext
  refine wpAny_bind (wpAny_attempt (wpAny_callSpecial?_slot (name := Str.ofString "__next__") hTy F.slot_zip_next
    (wpAny_call_entry F.slot_zip_next hTy F.entry_zip_next (next_end_held S D1 D2 hz hT hTI st1 st2 hle1 hle2 hend fun h' tk e hk he => ?_) (F.args_zip_next_1 _))))
  obtain ⟨o, ho, hc⟩ := he
  refine wpAny_bind (wpAny_isInstance (T := "StopIteration") (b := true) ⟨o, ho, hc⟩ isSubtype_stop ?_)
  exact wpAny_pure (hQ _ _ hk)
end
theorem zip_no_len : typeLookup (.type "zip") "__len__" = pure none := am_miss_of_fast (by decide +kernel)
theorem zip_no_hint : typeLookup (.type "zip") "__length_hint__" = pure none := am_miss_of_fast (by decide +kernel)

section
variable {X : Cx} {pins : List (Addr × Obj)} {σ : L2.St} {H : Hp} {s : Shared} {A : Around}
theorem kd_draws (I : Inv X pins σ H s) (hh : A.handled = none) {k : Kd} {xs : List V} (hq : k.has X.K H xs) {it : Addr} (hne : k.ap it) {tk : Tok} {i : Nat} (st : k.st tk it i s.heap) :
    ∃ (fp : List Addr) (P : Nat → Value → Prop) (St : Nat → Heap → Prop), Draws X.prog X.w A it fp xs.length P St ∧ St i s.heap ∧ (∀ j v, P j v → ∃ x, xs[j]? = some x ∧ RelV x v) ∧ (∀ j h, St j h → k.st tk it j h) ∧ it ∈ fp ∧ ∀ q ∈ fp, q = it ∨ ¬ k.ap q := by
  cases k with
  | l a =>
    obtain ⟨its, rv, p, _⟩ := I.list hq
    have e : its.toArray.size = xs.length := by rw [List.size_toArray]; exact rv.length.symm
    have D := Draws.list (prog := X.prog) (w := X.w) hh it a hne its.toArray
    rw [e] at D
    refine ⟨_, _, _, D, ⟨st, p.isList⟩, fun j v hv => vals_at rv (by simpa using hv), fun j h z => z.1, by simp, fun q hq => ?_⟩
    rcases List.mem_cons.mp hq with z | z
    · exact .inl z
    · exact .inr fun c => c (List.mem_singleton.mp z).symm
  | t a =>
    obtain ⟨its, rv, p, _⟩ := I.tuple hq
    have e : its.toArray.size = xs.length := by rw [List.size_toArray]; exact rv.length.symm
    have D := Draws.tuple (prog := X.prog) (w := X.w) hh it a hne its.toArray
    rw [e] at D
    refine ⟨_, _, _, D, ⟨st, p⟩, fun j v hv => vals_at rv (by simpa using hv), fun j h z => z.1, by simp, fun q hq => ?_⟩
    rcases List.mem_cons.mp hq with z | z
    · exact .inl z
    · exact .inr fun c => c (List.mem_singleton.mp z).symm
  | s z =>
    obtain rfl : xs = sgs z := hq
    have e : z.cps.size = (sgs z).length := by simp [sgs, cs]
    have D := Draws.text (prog := X.prog) (w := X.w) hh it z tk
    rw [e] at D
    refine ⟨_, _, _, D, st, fun j v hv => ?_, fun j h q => q, by simp, fun q hq => .inl (List.mem_singleton.mp hq)⟩
    obtain ⟨c, u, hc, rfl⟩ := hv
    refine ⟨.str ⟨#[c]⟩, ?_, u, rfl⟩
    show ((cs z).map _)[j]? = _
    rw [List.getElem?_map, show (cs z)[j]? = some c by rw [Array.getElem?_toList]; exact hc]
    rfl
theorem has_up {K : PySem.W.Frag} {G G' : Hp} (e : Ex G G') {k : Kd} {xs : List V} (h : k.has K G xs) : k.has K G' xs := by
  cases k with
  | l a => exact SqL.up e h
  | t a => exact SqT.up e h
  | s z => exact h
/-- what the zip knows of the tuple that it gave out -/
def ZO (h : Heap) (z TI TO : Addr) : Option Addr → Prop
  | none => IsZip h z TI TO .none ∧ ∃ x y, IsTupOf2 h TO x y
  | some T => ∃ f oT, IsZipHeld h z TI TO T f ∧ h.get? T = some oT
structure ZSt (k1 k2 : Kd) (tk1 tk2 : Tok) (z TI TO i1 i2 : Addr) (T0 : Option Addr) (i : Nat) (h : Heap) : Prop where
  zo : ZO h z TI TO T0
  to : ∃ o, h.get? TO = some o
  ti : IsTupOf2 h TI (.ref i1) (.ref i2)
  s1 : k1.st tk1 i1 i h
  s2 : k2.st tk2 i2 i h
theorem ZSt.keep {k1 k2 : Kd} {tk1 tk2 : Tok} {z TI TO i1 i2 : Addr} {T0 : Option Addr} {i : Nat} {h h' : Heap} (st : ZSt k1 k2 tk1 tk2 z TI TO i1 i2 T0 i h)
    (k : ∀ b, (b ∈ [z, TI, TO, i1, i2] ∨ T0 = some b) → ∀ o, h.get? b = some o → h'.get? b = some o) : ZSt k1 k2 tk1 tk2 z TI TO i1 i2 T0 i h' where
  zo := by
    have q := st.zo
    cases T0 with
    | none => exact ⟨k z (.inl (by simp)) _ q.1, q.2.imp fun x y => y.imp fun y p => k TO (.inl (by simp)) _ p⟩
    | some T =>
      obtain ⟨f, oT, h1, h2⟩ := q
      exact ⟨f, oT, k z (.inl (by simp)) _ h1, k T (.inr rfl) _ h2⟩
  to := st.to.imp fun o q => k TO (.inl (by simp)) _ q
  ti := k TI (.inl (by simp)) _ st.ti
  s1 := Kd.st_keep st.s1 fun o q => k i1 (.inl (by simp)) o q
  s2 := Kd.st_keep st.s2 fun o q => k i2 (.inl (by simp)) o q
theorem zs_item {E : Value → Shared → Prop} (hh : A.in1.handled = none) (I : Inv X pins σ H s) {k1 k2 : Kd} {xs ys : List V} (hqx : k1.has X.K H xs) (hqy : k2.has X.K H ys) {z TI TO i1 i2 : Addr} (D : Ap z TI TO i1 i2 k1 k2) {tk1 tk2 : Tok} {T0 : Option Addr}
    (hT0 : ∀ T, T0 = some T → T ∉ [z, TI, TO, i1, i2]) {i : Nat} (st : ZSt k1 k2 tk1 tk2 z TI TO i1 i2 T0 i s.heap) (hf : ∀ c ∈ [z, TI, TO, i1, i2], FpOk X pins H c) (hx : i < xs.length) (hy : i < ys.length) {Q : Option Value → Shared → Prop}
    (h : ∀ x y h' tk T1, xs[i]? = some x → ys[i]? = some y → Inv X pins σ (upd H s.heap.objs.size (.tup [x, y])) { s with heap := h', toks := tk } → T1 ∉ [z, TI, TO, i1, i2] → (T1 = s.heap.objs.size ∨ T0 = some T1) →
      ZSt k1 k2 tk1 tk2 z TI TO i1 i2 (some T1) (i + 1) h' → (∀ c ∈ [z, TI, TO, i1, i2], FpOk X pins (upd H s.heap.objs.size (.tup [x, y])) c) → (∀ c o, c ∉ [z, TI, TO, i1, i2] → s.heap.get? c = some o → h'.get? c = some o) → Q (some (.ref s.heap.objs.size)) { s with heap := h', toks := tk }) :
    wpAny (model X.prog X.w) A (pyNext (.ref z)) Q E s := by
  obtain ⟨hzo, ⟨oTO, hTOo⟩, hTI, h1, h2⟩ := st
  obtain ⟨fp1, P1, St1, D1, st1, g1, b1, m1, f1⟩ := kd_draws I hh hqx D.a1.2.2.1 h1
  obtain ⟨fp2, P2, St2, D2, st2, g2, b2, m2, f2⟩ := kd_draws I hh hqy D.a2.2.2.2 h2
  have S := D.sep m1 f1 m2 f2
  have lt : ∀ c ∈ [z, TI, TO, i1, i2], c ≠ TO → c < s.heap.objs.size := fun c hcm hTO => by
    have e' : c = z ∨ c = TI ∨ c = TO ∨ c = i1 ∨ c = i2 := by simpa using hcm
    rcases e' with q | q | q | q | q
    · rw [q]
      cases T0 with
      | none => exact Heap.lt_size hzo.1
      | some T => obtain ⟨_, _, e1, _⟩ := hzo; exact Heap.lt_size e1
    · rw [q]; exact Heap.lt_size hTI
    · exact absurd q hTO
    · rw [q]; obtain ⟨_, e1, _⟩ := Kd.st_obj h1; exact Heap.lt_size e1
    · rw [q]; obtain ⟨_, e2, _⟩ := Kd.st_obj h2; exact Heap.lt_size e2
  have fin : ∀ (u u2 : Value) (h' : Heap) (tk : Nat) (T1 : Addr), P1 i u → P2 i u2 → St1 (i + 1) h' → St2 (i + 1) h' → IsTupOf2 h' s.heap.objs.size u u2 → (∀ c o, c ∉ [z, TI, TO, i1, i2] → s.heap.get? c = some o → h'.get? c = some o) → IsTupOf2 h' TI (.ref i1) (.ref i2) → (∃ o, h'.get? TO = some o) →
      ZO h' z TI TO (some T1) → T1 ∉ [z, TI, TO, i1, i2] → (T1 = s.heap.objs.size ∨ T0 = some T1) → (∀ c ∈ [z, TI, TO, i1, i2], c ≠ s.heap.objs.size) → Q (some (.ref s.heap.objs.size)) { s with heap := h', toks := tk } := fun u u2 h' tk T1 p1 p2 s1' s2' hT hk ti to zo n1 n2 nc => by
    obtain ⟨x, hxx, ru⟩ := g1 _ _ p1
    obtain ⟨y, hyy, ru2⟩ := g2 _ _ p2
    have new : ObjOk X.prog X.w (upd H s.heap.objs.size (.tup [x, y])) h' s.heap.objs.size (.tup [x, y]) :=
      ⟨by show 2 ≤ sizeLine; decide, [u, u2], .cons ru (.cons ru2 .nil), ⟨_, hT, rfl, _, rfl⟩⟩
    have I1 : Inv X pins σ (upd H s.heap.objs.size (.tup [x, y])) { s with heap := h', toks := tk } :=
      I.turnedNew (t' := tk) (ch := [z, TI, TO, i1, i2]) hk hf (Nat.le_refl _) new
    exact h x y h' tk T1 hxx hyy I1 n1 n2 ⟨zo, to, ti, b1 _ _ s1', b2 _ _ s2'⟩ (fun c hc => ⟨by rw [upd_ne (nc c hc)]; exact (hf c hc).1, (hf c hc).2⟩) hk
  cases T0 with
  | none =>
    obtain ⟨hz, x0, y0, hTO⟩ := hzo
    have nc : ∀ c ∈ [z, TI, TO, i1, i2], c ≠ s.heap.objs.size := fun c hc => by
      by_cases e : c = TO
      · rw [e]; exact Nat.ne_of_lt (Heap.lt_size hTO)
      · exact Nat.ne_of_lt (lt c hc e)
    refine wpAny_pyNext_zipD2_item S D1 D2 hz hTI hTO st1 st2 hx hy fun u u2 h' tk p1 p2 z' TO' s1' s2' hT hsz hk => ?_
    exact fin u u2 h' tk s.heap.objs.size p1 p2 s1' s2' hT (fun c o hb q => hk c o (fun q' => hb (by simp [q'])) (fun q' => hb (by simp [q'])) (fun q' => hb (by simp [q'])) (fun q' => hb (by simp [q'])) q)
      (hk _ _ D.TIz D.TITO D.TIi1 D.TIi2 hTI) ⟨_, TO'⟩ ⟨false, _, z', hT⟩ (fun hc => nc _ hc rfl) (.inl rfl) nc
  | some T =>
    obtain ⟨f, oT, hz, hgT⟩ := hzo
    have nT := hT0 T rfl
    have nc : ∀ c ∈ [z, TI, TO, i1, i2], c ≠ s.heap.objs.size := fun c hc z => by
      have q := (hf c hc).1
      by_cases e : c = TO
      · exact Nat.lt_irrefl _ (z ▸ e ▸ Heap.lt_size hTOo)
      · exact Nat.lt_irrefl _ (z ▸ lt c hc e)
    refine pyNext_item_held S D1 D2 hz hgT hTI st1 st2 hx hy fun u u2 h' tk p1 p2 z' s1' s2' hT hsz hk => ?_
    exact fin u u2 h' tk T p1 p2 s1' s2' hT (fun c o hb q => hk c o (fun q' => hb (by simp [q'])) (fun q' => hb (by simp [q'])) (fun q' => hb (by simp [q'])) q)
      (hk _ _ D.TIz D.TIi1 D.TIi2 hTI) ⟨_, hk _ _ D.TOz D.TOi1 D.TOi2 hTOo⟩ ⟨true, oT, z', hk _ _ (fun q => nT (by simp [q])) (fun q => nT (by simp [q])) (fun q => nT (by simp [q])) hgT⟩ nT (.inr rfl) nc
theorem zs_done {E : Value → Shared → Prop} (hh : A.in1.handled = none) (I : Inv X pins σ H s) {k1 k2 : Kd} {xs ys : List V} (hqx : k1.has X.K H xs) (hqy : k2.has X.K H ys) {z TI TO i1 i2 : Addr} (D : Ap z TI TO i1 i2 k1 k2) {tk1 tk2 : Tok} {T0 : Option Addr}
    {i : Nat} (st : ZSt k1 k2 tk1 tk2 z TI TO i1 i2 T0 i s.heap) (hf : ∀ c ∈ [z, TI, TO, i1, i2], FpOk X pins H c) (hx : i ≤ xs.length) (hy : i ≤ ys.length) (he : i = xs.length ∨ i = ys.length) {Q : Option Value → Shared → Prop}
    (h : ∀ h' tk, Inv X pins σ H { s with heap := h', toks := tk } → Q none { s with heap := h', toks := tk }) : wpAny (model X.prog X.w) A (pyNext (.ref z)) Q E s := by
  obtain ⟨hzo, ⟨oTO, hTOo⟩, hTI, h1, h2⟩ := st
  obtain ⟨fp1, P1, St1, D1, st1, g1, b1, m1, f1⟩ := kd_draws I hh hqx D.a1.2.2.1 h1
  obtain ⟨fp2, P2, St2, D2, st2, g2, b2, m2, f2⟩ := kd_draws I hh hqy D.a2.2.2.2 h2
  have S := D.sep m1 f1 m2 f2
  have fin : ∀ h' tk, (∀ c o, c ∉ [z, TI, TO, i1, i2] → s.heap.get? c = some o → h'.get? c = some o) → Q none { s with heap := h', toks := tk } := fun h' tk hk =>
    h h' tk (I.turnedL (t' := tk) (ch := [z, TI, TO, i1, i2]) hk hf)
  cases T0 with
  | none =>
    obtain ⟨hz, x0, y0, hTO⟩ := hzo
    exact wpAny_pyNext_zipD2_end S D1 D2 hz hTI hTO st1 st2 hx hy he fun h' tk hk => fin h' tk fun c o hb q => hk c o (fun q' => hb (by simp [q'])) (fun q' => hb (by simp [q'])) (fun q' => hb (by simp [q'])) (fun q' => hb (by simp [q'])) q
  | some T =>
    obtain ⟨f, oT, hz, hgT⟩ := hzo
    exact pyNext_end_held S D1 D2 hz hgT hTI st1 st2 hx hy he fun h' tk hk => fin h' tk fun c o hb q => hk c o (fun q' => hb (by simp [q'])) (fun q' => hb (by simp [q'])) (fun q' => hb (by simp [q'])) q
/-- a pair of things, by value -/
def PqV (H : Hp) (v : V) (q : V × V) : Prop := ∃ t, v = .ref t ∧ H t = some (.tup [q.1, q.2])
instance : Imm PqV := ⟨fun t h => h.imp fun p z => ⟨z.1, t _ _ z.2⟩⟩
theorem zip_take {α β : Type} {xs : List α} {ys : List β} {i : Nat} {x : α} {y : β} (h1 : xs[i]? = some x) (h2 : ys[i]? = some y) : (xs.zip ys).take (i + 1) = (xs.zip ys).take i ++ [(x, y)] := by
  rw [List.take_add_one, (List.getElem?_zip_eq_some (z := (x, y))).mpr ⟨h1, h2⟩]
  rfl
theorem zl_loop {R : Result → Shared → Prop} {H1 : Hp} {k1 k2 : Kd} {xs ys : List V} (hx1 : k1.has X.K H1 xs) (hy1 : k2.has X.K H1 ys) {z TI TO i1 i2 : Addr} (D : Ap z TI TO i1 i2 k1 k2) {tk1 tk2 : Tok} {S : Addr} (hS1 : H1 S = none) (hSn : S ∉ [z, TI, TO, i1, i2]) (hh : A.in1.in1.handled = none)
    (hz : xs.length ≤ sizeLine) (hz2 : ys.length ≤ sizeLine) (res : Value) (hR : ∀ H' s' acc, Inv X pins σ H' s' → Ex H1 H' → H' S = some (.lst acc) → P2 (PqV H') acc (xs.zip ys) → R (.ok (.ret res)) s') :
    ∀ (k i : Nat) (s : Shared) (H : Hp) (acc : List V) (T0 : Option Addr), min xs.length ys.length - i = k → i ≤ min xs.length ys.length → Inv X pins σ H s → Ex H1 H → H S = some (.lst acc) → P2 (PqV H) acc ((xs.zip ys).take i) → (∀ T, T0 = some T → T ∉ [z, TI, TO, i1, i2] ∧ T ≠ S) →
      ZSt k1 k2 tk1 tk2 z TI TO i1 i2 T0 i s.heap → (∀ c ∈ [z, TI, TO, i1, i2], FpOk X pins H c) → codeAny (model X.prog X.w) A (.builtin "list.extend.loop" ⟨[.ref S, .ref z, res], []⟩) R s := by
  intro k
  induction k with
  | zero =>
    intro i s H acc T0 hk hi I e hS hP hT0 st hf
    refine codeAny_builtin PySem.F.entry_extend_loop ?_
    rw [Around.under_plainId PySem.F.plain_extend_loop _]
    show wpAny _ A.in1 (pyNext (.ref z) >>= _) _ _ _
    refine wpAny_bind (zs_done (A := A.in1) hh I (has_up e hx1) (has_up e hy1) D st hf (by omega) (by omega) (by omega) fun h' tk I' => ?_)
    refine wpAny_pure (hR _ _ acc I' e hS ?_)
    rw [List.take_of_length_le (by rw [List.length_zip]; omega)] at hP
    exact hP
  | succ k ih =>
    intro i s H acc T0 hk hi I e hS hP hT0 st hf
    have al := hP.len
    rw [List.length_take, List.length_zip] at al
    refine codeAny_builtin PySem.F.entry_extend_loop ?_
    rw [Around.under_plainId PySem.F.plain_extend_loop _]
    show wpAny _ A.in1 (pyNext (.ref z) >>= _) _ _ _
    refine wpAny_bind (zs_item (A := A.in1) hh I (has_up e hx1) (has_up e hy1) D (fun T h => (hT0 T h).1) st hf (by omega) (by omega) fun x y h' tk T1 hx hy I1 n1 n2 st' hf' hk' => ?_)
    have hSs : S ≠ s.heap.objs.size := fun q => by
      have z := I.fresh
      rw [← q, hS] at z
      cases z
    have hS2 : (upd H s.heap.objs.size (.tup [x, y])) S = some (.lst acc) := by rw [upd_ne hSs]; exact hS
    obtain ⟨z1, its, n, r, hl, eS⟩ := I1.lstM hS2
    have T1S : T1 ≠ S := by
      rcases n2 with q | q
      · rw [q]; exact Ne.symm hSs
      · exact (hT0 T1 q).2
    show wpAny _ A.in1 (updateSeq S (·.push (Value.ref s.heap.objs.size)) >>= _) _ _ { s with heap := h', toks := tk }
    refine wpAny_bind ?_
    have I2 := I1.lset (ys := acc ++ [.ref s.heap.objs.size]) (its' := its ++ [.ref s.heap.objs.size]) (f := fun a => a.push (Value.ref s.heap.objs.size)) (t' := tk) hS2 eS (by simp) (r.append (.cons (show L2.RelV (V.ref s.heap.objs.size) (Value.ref s.heap.objs.size) from rfl) .nil)) (by rw [List.length_append, List.length_singleton]; omega)
    refine wpAny_updateSeq eS rfl (wpAny_pure ⟨plainId_quiet PySem.F.plain_extend_loop _, ih (i + 1) _ _ (acc ++ [.ref s.heap.objs.size]) (some T1) (by omega) (by omega) I2 ?_ upd_same ?_ ?_ ?_ ?_⟩) ?_ ?_
    · exact Same.mut (e.trans (Same.new (Same.refl H) I.fresh)) hS1
    · rw [zip_take hx hy]
      have tn : Tk H (upd H s.heap.objs.size (.tup [x, y])) := .ex (Same.new (Same.refl H) I.fresh)
      have tp := Tk.put (o := .lst (acc ++ [.ref s.heap.objs.size])) hS2
      exact (p2_imm (tn.trans tp) hP).snoc (imm tp ⟨_, rfl, upd_same⟩)
    · intro T hT
      cases hT
      exact ⟨n1, T1S⟩
    · refine st'.keep fun b hb o q => (Heap.get?_update_other _ _ ?_).trans q
      rcases hb with hb | hb
      · exact fun q0 => hSn (by rw [q0]; exact hb)
      · cases hb
        exact Ne.symm T1S
    · intro c hc
      exact ⟨by rw [upd_ne fun q0 => hSn (by rw [← q0]; exact hc)]; exact (hf' c hc).1, (hf' c hc).2⟩
    · rw [List.size_toArray]
      omega
    · show (its.toArray.push _).size ≤ sizeLine + 1
      rw [Array.size_push, List.size_toArray]
      omega
def tListZip (K : PySem.W.Frag) (ta : TA) : TE := fun σ H Q => ta σ H fun vs H1 => ∃ (k1 k2 : Kd) (xs ys : List V), vs = [k1.v, k2.v] ∧ k1.has K H1 xs ∧ k2.has K H1 ys ∧ xs.length ≤ sizeLine ∧ ys.length ≤ sizeLine ∧
  ∀ p H' acc, Ex H1 H' → H1 p = none → H' p = some (.lst acc) → P2 (PqV H') acc (xs.zip ys) → Q (.ref p) H'
theorem pe_listZip {e e2 : Expr} {ta : TA} {p p2 pos pos2 : Pos} (hc : X.calm = true) (hg : Gl X "list") (hm : X.mg "list" = none) (hgz : Gl X "zip") (hmz : X.mg "zip" = none) (ha : PA X [e, e2] ta)
    (hs : starEach [.Call (.Name "zip" p2) [e, e2] [] pos2] X.env = (false, eval (.Call (.Name "zip" p2) [e, e2] [] pos2) X.env) :: starEach [] X.env := by rfl)
    (hs2 : starEach [e, e2] X.env = (false, eval e X.env) :: starEach [e2] X.env := by rfl) (hpl : (backTo pos2 (starEach [e2] X.env)).any (·.1) = false := by rfl) :
    PE X (.Call (.Name "list" p) [.Call (.Name "zip" p2) [e, e2] [] pos2] [] pos) (tListZip X.K ta) := by
  refine ⟨fun pins s σ H Q I h => ?_⟩
  refine wpAny_Call_Name_kw (ld_blt I hg hm boot_list ?_)
  refine PyProof.Rows.callWith_type1 ?_ hs rfl
  rw [hs]
  show wpAny _ _ (spliced ((false, eval (.Call (.Name "zip" p2) [e, e2] [] pos2) X.env) :: backTo pos (starEach [] X.env))) _ _ s
  refine Calls.spliced_cons ?_
  refine Call_ (ld_blt I hgz hmz PyProof.Rows.boot_zip (PyProof.Rows.callWith_type1 (thn (ha.run pos2 pins s σ H _ I h) fun us s1 ⟨vs, H1, I1, r1, q1⟩ => ?_) hs2 hpl))
  obtain ⟨k1, k2, xs, ys, ex, hx, hy, lx, ly, q⟩ := q1
  subst ex
  cases r1 with
  | cons r rr =>
    cases rr with
    | cons r' rr =>
      cases rr
      obtain ⟨o1, HH1, tk1, B1, g1, st1, ap1⟩ := Kd.begins I1 hx r
      obtain ⟨o2, HH2, tk2, B2, g2, st2, ap2⟩ := Kd.begins I1 hy r'
      refine zip_begins2 B1 B2 g1 g2 fun h' hz hTI hTO h1 h2 hsz hk => ?_
      have I2 : Inv X pins σ H1 { s1 with heap := h' } := I1.kept (t' := s1.toks) hk
      have fresh5 : ∀ c, c ∈ [s1.heap.objs.size + 4, s1.heap.objs.size + 2, s1.heap.objs.size + 3, s1.heap.objs.size, s1.heap.objs.size + 1] → FpOk X pins H1 c := fun c hcm => by
        have hle : s1.heap.objs.size ≤ c := by
          have e' : c = s1.heap.objs.size + 4 ∨ c = s1.heap.objs.size + 2 ∨ c = s1.heap.objs.size + 3 ∨ c = s1.heap.objs.size ∨ c = s1.heap.objs.size + 1 := by simpa using hcm
          omega
        exact I1.fpOk hle (I1.hok.fresh hle)
      have ap : Ap (s1.heap.objs.size + 4) (s1.heap.objs.size + 2) (s1.heap.objs.size + 3) s1.heap.objs.size (s1.heap.objs.size + 1) k1 k2 :=
        ⟨ne_nat (by omega), ne_nat (by omega), ne_nat (by omega), ne_nat (by omega), ne_nat (by omega), ne_nat (by omega), ne_nat (by omega), ne_nat (by omega), ne_nat (by omega), ne_nat (by omega), ⟨ap1 _ (by omega), ap1 _ (by omega), ap1 _ (by omega), ap1 _ (by omega)⟩, ⟨ap2 _ (by omega), ap2 _ (by omega), ap2 _ (by omega), ap2 _ (by omega)⟩⟩
      have zst : ZSt k1 k2 tk1 tk2 (s1.heap.objs.size + 4) (s1.heap.objs.size + 2) (s1.heap.objs.size + 3) s1.heap.objs.size (s1.heap.objs.size + 1) none 0 h' := ⟨⟨hz, _, _, hTO⟩, ⟨_, hTO⟩, hTI, st1 _ _ h1, st2 _ _ h2⟩
      have lt : ∀ c, c ∈ [s1.heap.objs.size + 4, s1.heap.objs.size + 2, s1.heap.objs.size + 3, s1.heap.objs.size, s1.heap.objs.size + 1] → c < h'.objs.size := fun c hcm => by
        have e' : c = s1.heap.objs.size + 4 ∨ c = s1.heap.objs.size + 2 ∨ c = s1.heap.objs.size + 3 ∨ c = s1.heap.objs.size ∨ c = s1.heap.objs.size + 1 := by simpa using hcm
        have hzl := Heap.lt_size hz
        omega
      generalize hzz : s1.heap.objs.size + 4 = z at *
      generalize s1.heap.objs.size + 2 = TI at *
      generalize s1.heap.objs.size + 3 = TO at *
      generalize s1.heap.objs.size + 1 = i2 at *
      generalize hi1 : s1.heap.objs.size = i1 at *
      refine Calls.spliced_nil ?_
      refine callType_codes (Q₁ := fun obj s₁ => obj = .ref h'.objs.size ∧ s₁ = { s1 with heap := h'.push { cls := .type "list", data := .seq #[] } }) PySem.F.called_list (PySem.F.typeCall_list_1 _) PySem.F.entry_list_init
        (code_list_new _ ⟨rfl, rfl⟩) fun obj s₁ h₁ => ?_
      obtain ⟨rfl, rfl⟩ := h₁
      have hSn : H1 h'.objs.size = none := I2.hok.fresh (Nat.le_refl _)
      have I3 := I2.lnew (ys := []) (its := []) (t' := s1.toks) .nil (Nat.zero_le _)
      have hS : (h'.push { cls := .type "list", data := .seq #[] }).get? h'.objs.size = some { cls := .type "list", data := .seq ([] : List Value).toArray } := Heap.get?_push_size _ rfl
      have sn : h'.objs.size ∉ [z, TI, TO, i1, i2] := fun hcm => Nat.lt_irrefl _ (lt _ hcm)
      refine ⟨⟨_, hS, rfl⟩, PySem.F.args_list_init_2 _ _, ?_⟩
      show wpAny _ X.A.in1.in1 (do let old ← Builtin.List.listItems (.ref h'.objs.size); Builtin.List.listUpdate (.ref h'.objs.size) (fun _ => #[]); letGo old.toList.reverse; Builtin.List.listExtendWith (.ref h'.objs.size) (.ref z) .none) _ _ _
      refine wpAny_bind ?_
      unfold Builtin.List.listItems
      refine wpAny_bind (wpAny_seqItems hS rfl (wpAny_pure ?_))
      show wpAny _ X.A.in1.in1 (updateSeq h'.objs.size (fun _ => #[]) >>= fun _ => letGo (#[] : Array Value).toList.reverse >>= fun _ => Builtin.List.listExtendWith (.ref h'.objs.size) (.ref z) .none) _ _ _
      refine wpAny_bind (wpAny_updateSeq hS rfl ?_)
      have I4 := I3.lset (l := h'.objs.size) (xs := []) (ys := []) (its := []) (its' := []) (f := fun _ => #[]) (t' := s1.toks) upd_same hS rfl .nil (Nat.zero_le _)
      have hS2 := Heap.get?_update_self (Obj.mapSeq (fun _ => (#[] : Array Value))) hS rfl
      refine wpAny_bind (wpAny_letGo ?_)
      unfold Builtin.List.listExtendWith
      have up : ∀ (hh : Heap) (f : Obj → Obj), (∀ b o, b ≠ h'.objs.size → h'.get? b = some o → hh.get? b = some o) → ∀ b o, b ≠ h'.objs.size → h'.get? b = some o → (hh.update h'.objs.size f).get? b = some o := fun hh f q b o n e =>
        (Heap.get?_update_other _ _ (Ne.symm n)).trans (q b o n e)
      have u1 : ∀ b o, b ≠ h'.objs.size → h'.get? b = some o → (h'.push { cls := .type "list", data := .seq #[] }).get? b = some o := fun b o _ e => Heap.get?_push_of_some _ e
      have u2 := up _ (Obj.mapSeq (fun _ => (#[] : Array Value))) u1
      have zS : z ≠ h'.objs.size := Nat.ne_of_lt (Heap.lt_size hz)
      have hz2 := u2 _ _ zS hz
      refine wpAny_bind (wpAny_typeOf (T := "zip") ⟨_, hz2, rfl⟩ ?_)
      have b1 : Builtin.List.listSameRef (.ref h'.objs.size) (.ref z) = false := by simp [Builtin.List.listSameRef, Ne.symm zS]
      have b2 : (Value.type "zip" == Value.type "list") = false := by decide
      have b3 : (Value.type "zip" == Value.type "tuple") = false := by decide
      simp only [b1, b2, b3, Bool.or_false, Bool.false_eq_true, if_false]
      refine wpAny_bind (wpAny_pyIter_zip hz2 ?_)
      refine wpAny_bind (wpAny_holding ?_)
      unfold Builtin.List.listLengthHint
      refine wpAny_bind (wpAny_specialOf (T := "zip") ⟨_, hz2, rfl⟩ zip_no_len ?_)
      show wpAny _ X.A.in1.in1 (specialOf (Value.ref z) (Str.ofString "__length_hint__") >>= _) _ _ _
      refine wpAny_bind (wpAny_specialOf (T := "zip") ⟨_, hz2, rfl⟩ zip_no_hint ?_)
      refine wpAny_pure ?_
      show wpAny _ X.A.in1.in1 (rule "list.extend.makes-room" >>= fun _ => Builtin.List.listTouch (.ref h'.objs.size) >>= fun _ =>
        again (.builtin "list.extend.loop" ⟨[.ref h'.objs.size, .ref z, .none], []⟩)) _ _ _
      refine wpAny_bind (wpAny_rule ?_)
      refine wpAny_bind ?_
      show wpAny _ X.A.in1.in1 (updateSeq h'.objs.size (·.push .none) >>= fun _ => updateSeq h'.objs.size (·.pop)) _ _ _
      refine wpAny_bind (wpAny_updateSeq hS2 rfl ?_)
      have I5 := I4.lset (l := h'.objs.size) (xs := []) (ys := [.non]) (its := []) (its' := [.none]) (f := (·.push .none)) (t' := s1.toks) upd_same hS2 rfl (.cons rfl .nil) (by decide)
      have hS3 := Heap.get?_update_self (Obj.mapSeq (·.push Value.none)) hS2 rfl
      refine wpAny_updateSeq (hz := by seq_fits) hS3 rfl ?_
      have I6 := I5.lset (l := h'.objs.size) (xs := [.non]) (ys := []) (its := [.none]) (its' := []) (f := (·.pop)) (t' := s1.toks) upd_same hS3 rfl .nil (Nat.zero_le _)
      have u4 := up _ (Obj.mapSeq (·.pop)) (up _ (Obj.mapSeq (·.push Value.none)) u2)
      refine wpAny_pure ⟨plainId_quiet PySem.F.plain_extend_loop _, ?_⟩
      have eH : Ex H1 (upd (upd (upd (upd H1 h'.objs.size (.lst [])) h'.objs.size (.lst [])) h'.objs.size (.lst [.non])) h'.objs.size (.lst [])) :=
        Same.mut (Same.mut (Same.mut (Same.new (Same.refl H1) hSn) hSn) hSn) hSn
      refine zl_loop (X := X) (pins := pins) (σ := σ) (A := X.A.in1) (H1 := H1) hx hy ap hSn sn (I.ok.hd hc) lx ly .none (fun H' s' acc I' e' hS' hP => ⟨rfl, .ref _, H', I', rfl, q _ H' acc e' hSn hS' hP⟩)
        _ 0 _ _ [] none rfl (Nat.zero_le _) I6 eH upd_same .nil (fun T h => by cases h) (zst.keep fun b hb o q => u4 b o (fun z => ?_) q) (fun c hcm => ?_)
      · rcases hb with hb | hb
        · exact sn (z ▸ hb)
        · cases hb
      · have n : c ≠ h'.objs.size := Nat.ne_of_lt (lt c hcm)
        refine ⟨?_, (fresh5 c hcm).2⟩
        rw [upd_ne n, upd_ne n, upd_ne n, upd_ne n]
        exact (fresh5 c hcm).1
end
end Zl

/-! a rule of our own: xs[a:c] = ys -/
namespace Dk
open PySem PySem.Spec PyProof.Rows L2 PySem.SeqAt PySem.W
def gSli (to : TE) (tl th : TO) : TG := fun v σ H Q => to σ H fun o H1 => tl σ H1 fun lo H2 => th σ H2 fun hi H3 => ∃ (l b : Addr) (xs ys : List V) (a c : Int), o = .ref l ∧ v = .ref b ∧ lo = some a ∧ hi = some c ∧
  H3 l = some (.lst xs) ∧ H3 b = some (.lst ys) ∧ l ≠ b ∧ 0 ≤ a ∧ a ≤ c ∧ c ≤ xs.length ∧ xs.length + ys.length ≤ sizeLine ∧ Q σ (upd H3 l (.lst (xs.take a.toNat ++ ys ++ xs.drop c.toNat)))
theorem pg_sli {X : Cx} {o : Expr} {lo hi : Option Expr} {to : TE} {tl th : TO} {pos p2 : Pos} (ho : PE X o to) (hl : PO X lo tl) (hu : PO X hi th)
    (ha : ∀ v, assign (.Subscript o (.Slice lo hi none p2) pos) X.env v = (do
      let ov ← holding [v] (eval o X.env)
      let iv ← holding [v, ov] (eval (.Slice lo hi none p2) X.env)
      standAt pos
      holding [v, ov, iv] (setItem ov iv v)
      release [iv, v, ov] []) := by intro _; rfl) : PG X (.Subscript o (.Slice lo hi none p2) pos) (gSli to tl th) := by
  refine ⟨fun pins s σ H v u Q I r h => ?_⟩
  rw [ha]
  refine wpAny_bind (wpAny_holding (thn (ho.run pins s σ H _ I h) fun ov s1 ⟨x, H1, I1, r1, q1⟩ => ?_))
  refine wpAny_bind (wpAny_holding (wpAny_Slice (thn (hl.run pins s1 σ H1 _ I1 q1) fun vl s2 ⟨l, H2, I2, pl, q2⟩ => thn (hu.run pins s2 σ H2 _ I2 q2) fun vu s3 ⟨w, H3, I3, pu, q3⟩ => ?_)))
  rw [evalPart_none]
  refine wpAny_pure ?_
  have I4 : Inv X pins σ H3 { s3 with heap := s3.heap.push { cls := .type "slice", data := .fields #[vl, vu, .none] } } := I3.kept (t' := s3.toks) fun b ob q => Heap.get?_push_of_some _ q
  obtain ⟨la, lb, xs, ys, a, c, rfl, rfl, rfl, rfl, h1, h2, h3, h4, h5, h6, h7, q⟩ := q3
  cases r1
  cases r
  have ra : RelV (.int a) vl := by
    cases pl with
    | int _ t => exact ⟨t, rfl⟩
  have rc : RelV (.int c) vu := by
    cases pu with
    | int _ t => exact ⟨t, rfl⟩
  refine wpAny_bind (wpAny_standAt (wpAny_bind (wpAny_holding ?_)))
  refine set_slice (s := { s3 with heap := s3.heap.push { cls := .type "slice", data := .fields #[vl, vu, .none] } }) (sl := s3.heap.objs.size) I4 h1 h2 h3 (Heap.IsSliceOf.new ..) ra rc h4 h5 h6 h7 fun s' I' => ?_
  exact wpAny_release ⟨σ, _, I', q⟩
theorem r_gsli {v : V} {σ : L2.St} {H : Hp} {Q : L2.St → Hp → Prop} {to : TE} {tl th : TO} (h : to σ H fun o H1 => tl σ H1 fun lo H2 => th σ H2 fun hi H3 => ∃ (l b : Addr) (xs ys : List V) (a c : Int), o = .ref l ∧ v = .ref b ∧ lo = some a ∧ hi = some c ∧
  H3 l = some (.lst xs) ∧ H3 b = some (.lst ys) ∧ l ≠ b ∧ 0 ≤ a ∧ a ≤ c ∧ c ≤ xs.length ∧ xs.length + ys.length ≤ sizeLine ∧ Q σ (upd H3 l (.lst (xs.take a.toNat ++ ys ++ xs.drop c.toNat)))) : gSli to tl th v σ H Q := h
end Dk

/-! isinstance of a caught error that has fields -/
namespace Dk
open PySem PySem.Spec PyProof.Rows L2
def rIsED (K : PySem.W.Frag) (D a : Addr) (cls : Value) (d : Option Addr) : List V → Hp → VK → Prop := fun xs H Q => cls = .ref D ∧ ∃ (dd : Addr) (fs : List (Str × V)) (c : V) (cv : Value) (b : Bool), d = some dd ∧ H dd = some (.xd fs) ∧ xs = [.ref a, c] ∧ (∀ u, RelV c u → u = cv) ∧ PySem.W.kitOne K (.ref D) cv = some b ∧ Q (.bl b) H
theorem call_isED {X : Cx} {a D : Addr} {oe : Obj} {cls : Value} {d : Option Addr} {pn : List (Addr × Obj)} (C : ExcC X.K D) (hz : Zc cls d oe) (hf : ∃ vs, oe.data = .fields vs) : CallR (X.suite a ((a, oe) :: pn)) (.builtin "isinstance") (rIsED X.K D a cls d) := by
  intro pins s σ H xs us Q I r h
  obtain ⟨ec, dd, fs, c, cv, b, ed, ea, rfl, hcv, e, q⟩ := h
  subst ec ed
  cases r with
  | cons rx rr =>
    cases rr with
    | cons rt rr =>
      cases rr
      cases rx
      have ec := hcv _ rt
      subst ec
      obtain ⟨hget, _⟩ := I.pin (a, oe) (List.mem_append_left _ List.mem_cons_self)
      obtain ⟨vs, hd⟩ := hf
      have hx : ObjOk X.prog X.w H s.heap dd (.xd fs) := I.hok dd _ ea
      obtain ⟨mA, hns, hr⟩ := hx
      obtain ⟨od, ho, hl⟩ := lookIn_ns hns
      have J : PySem.W.InstAt s.heap a oe D (some od) := ⟨hget, hz.1, by unfold PySem.W.notCls; rw [hd] <;> rfl, by rw [hz.2]; exact ho⟩
      have hcl : (PySem.W.clsIn X.K D).isSome = true := by
        obtain ⟨cdD, hcD, _⟩ := PySem.W.any_some C.hd
        rw [hcD]; rfl
      exact PySem.W.kia_one (PySem.W.kitx_exc hcl C.hg C.hk C.hs C.ha C.hn C.ht C.hm) I.kIn J e (fun z => nomatch z) fun tk => ⟨.bl b, H, I.kept (t' := tk) fun _ _ z => z, rfl, q⟩
theorem r_isED {K : PySem.W.Frag} {D a dd : Addr} {cls : Value} {d : Option Addr} {fs : List (Str × V)} {c : V} {cv : Value} {b : Bool} {H : Hp} {Q : VK} (h1 : cls = .ref D) (h2 : d = some dd) (h3 : H dd = some (.xd fs)) (h4 : ∀ u, RelV c u → u = cv) (h5 : PySem.W.kitOne K (.ref D) cv = some b) (q : Q (.bl b) H) : rIsED K D a cls d [.ref a, c] H Q :=
  ⟨h1, dd, fs, c, cv, b, h2, h3, rfl, h4, h5, q⟩
end Dk

/-! more rules: keywords inside a try, dicts, locks, a few methods -/
namespace Dk
open PySem PySem.Spec PyProof.Rows L2 LiI StX
section
variable {X : Cx} {CX : CXT} {k : Nat} {f : Addr} {fd : FuncData} {ps ks : List Str} {sp : Sp} {E : L2.St → XK} {x : Str} {p pos : Pos} {kws : List Keyword} {tk : TA} {g : List Value → List Value → List Value} {gV : List V → List V → List V}
def tCallKS (sp : Sp) (gV : List V → List V → List V) (E : L2.St → XK) (tk : TA) : TE := fun σ H Q => tk σ H fun zs H2 => sp (gV [] zs) H2 Q (E σ)
theorem pe_callKS (F : FnOk X.prog X.w X.K X.mg X.base CX k f fd ps sp) (hr : Room k X.A) (hg : Gl X x) (hm : X.mg x = some (.ref f)) (hk : PySem.W.keepIn X.K (.ref f) = true) (hb : KBinds X.K fd ps ks g gV) (hx : ∀ σ, PassesAt CX X σ (E σ))
    (hkw : PK X kws tk) (hall : (backToKw pos (keywordEach kws X.env)).all (·.1.isSome) = true := by rfl) (hks : (backToKw pos (keywordEach kws X.env)).filterMap (·.1) = ks := by rfl)
    (hdb : (x == ("__debug__" : Str)) = false := by decide)
    (hpl : ((backTo pos (starEach [] X.env)).any (·.1) || (backToKw pos (keywordEach kws X.env)).any (·.1.isNone)) = false := by rfl) :
    PE X (.Call (.Name x p) [] kws pos) (tCallKS sp gV E tk) := by
  refine ⟨fun pins s σ H Q I h => ?_⟩
  refine wpAny_Call_Name_kw (ld_glob I hg hm ?_ hdb)
  refine PySem.W.callWith_KW0 (h₀ := X.base) I.ok.mod.kin hk hall (thn (hkw.run pos pins s σ H _ I h) fun ws s2 ⟨zs, H2, I2, rz, q2⟩ => ⟨I2.kIn, ?_⟩) hpl
  rw [hks]
  have r2 := hb.rel (us := []) (vs := []) .nil rz
  have hl : (g [] ws).length = ps.length := by rw [← r2.length]; exact F.len _ _ _ _ q2
  refine wpAny_call (codeAny_mono (F.run X.A X.stack s2 H2 ⟨[], ks.zip ws⟩ (g [] ws) (gV [] zs) Q (E σ) hr I2.env0 (hb.to s2 [] ws I2.kIn hl) r2 q2) fun r s' hq => ?_)
  cases r with
  | error e => exact hx σ pins H2 s2 e s' I2 hq
  | ok fl =>
    cases fl with
    | ret u => exact I2.after hq
    | next => exact False.elim hq
    | brk => exact False.elim hq
    | cont => exact False.elim hq
theorem r_callKS {σ : L2.St} {H : Hp} {Q : VK} (h : tk σ H fun zs H2 => sp (gV [] zs) H2 Q (E σ)) : tCallKS sp gV E tk σ H Q := h
end
section
variable {K : PySem.W.Frag} {td ty te to : TE} {σ : L2.St} {H : Hp} {Q : VK} {v x y : V} {D : Ends}
theorem r_chain {r r' : R2} {ta tb tc : TE} (h : ta σ H fun x H1 => tb σ H1 fun y H2 => r x y H2 fun z H3 => ∃ k, z = .bl k ∧ (if k = true then tc σ H3 fun w' H4 => r' y w' H4 Q else Q (.bl false) H3)) : tChain r r' ta tb tc σ H Q := h
theorem r_dget (h : td σ H fun x H1 => ty σ H1 fun y H2 => ∃ a v, x = .ref a ∧ DGet H2 a y (some v) ∧ Q v H2) : tDGet td ty σ H Q := h
theorem r_din (h : ty σ H fun y H1 => td σ H1 fun x H2 => ∃ a o, x = .ref a ∧ DGet H2 a y o ∧ Q (.bl o.isSome) H2) : tDIn ty td σ H Q := h
theorem r_dnotin (h : ty σ H fun y H1 => td σ H1 fun x H2 => ∃ a o, x = .ref a ∧ DGet H2 a y o ∧ Q (.bl (!o.isSome)) H2) : tDNotIn ty td σ H Q := h
theorem r_lock {t : TS} (h : ∃ d u, H d = some u ∧ Mut (some u) ∧ ∀ od, t ⟨fun σ' H' => H' d = some (.frz od u) ∧ D.nx σ' (upd H' d u), fun v H' => H' d = some (.frz od u) ∧ D.rt v (upd H' d u), fun σ' H' => H' d = some (.frz od u) ∧ D.bk σ' (upd H' d u), fun σ' H' => H' d = some (.frz od u) ∧ D.ct σ' (upd H' d u)⟩ σ (upd H d (.frz od u))) : tLock t D σ H := h
theorem r_items (h : te σ H fun x H1 => rItemsL x H1 Q) : tListItems te σ H Q := h
theorem r_bits (h : to σ H fun x H1 => ∃ i, x = .int i ∧ Q (.int (Builtin.Int.intBits i : Nat)) H1) : tBits to σ H Q := h
theorem r_starC {t : TA} {QA : List V → Hp → Prop} (h : te σ H fun x H1 => ∃ p xs, x = V.ref p ∧ (SqT K H1 p xs ∨ SqL K H1 p xs) ∧ t σ H1 fun ys H2 => QA (xs ++ ys) H2) : tStar K te t σ H QA := h
theorem r_forKo {g : TG} {tb : TS} (h : td σ H fun x H1 => ∃ d o, x = .ref d ∧ ((∃ kvs, H1 d = some (.frz o (.dK kvs)) ∧ LoopW (Itk d o kvs) g tb D σ H1) ∨ ∃ kvs, H1 d = some (.frz o (.dT kvs)) ∧ LoopW (Itkt d o kvs) g tb D σ H1)) : tFor (iKeys td) g tb D σ H := h
end
/-- l.index(x, k) -/
def rIndexD3 (K : PySem.W.Frag) : V → List V → Hp → VK → Prop := fun x xs H Q => ∃ (a : Addr) (y : V) (d : PyData) (ds : List PyData) (j : Nat) (z : PyData) (k : Int), x = V.ref a ∧ xs = [y, .int k] ∧ Dp K H (V.ref a) (.list ds) ∧ Dp K H y d ∧
  SeqAt.shaped (.list ds) = true ∧ SeqAt.shaped d = true ∧ ds[j]? = some z ∧ PyData.eqv z d = true ∧ 0 ≤ k ∧ k ≤ (j : Int) ∧ (∀ (m : Nat) (z' : PyData), k ≤ (m : Int) → m < j → ds[m]? = some z' → PyData.eqv z' d = false) ∧ Q (.int (j : Nat)) H
theorem mt_indexD3 {X : Cx} (hu : X.A.units + 65 < cLine) : MtR X "list.index" (rIndexD3 X.K) := by
  intro pins s σ H x xs v us Q I rx rxs h
  obtain ⟨a, y, d, ds, j, z, k, rfl, rfl, hl, hy, sl, sd, hz, hzj, k0, kj, hno, q⟩ := h
  cases rx
  cases rxs with
  | cons ry rt =>
    rename_i uy ut
    cases rt with
    | cons rk rt =>
    rename_i uk ut
    cases rt
    obtain ⟨tk, rfl⟩ := rk
    obtain ⟨bs, r1⟩ := Dp.reads I d y uy hy ry
    have hxs : PyData.canLayAll0 ds = true := SeqAt.canLay_of_shaped sl
    have hroom : X.A.units + 1 + min (PyData.depthAll ds) d.depth < cLine := room_in_shaped sd hu
    cases hl with
    | lst hs ha =>
      obtain ⟨its, rv, ⟨⟨cls, dd, data, sls⟩, n, ho, hc, hdn, hdt⟩, hlen⟩ := I.list hs
      simp only at hc hdt
      subst hc hdt
      obtain ⟨as, h4⟩ := Dp.readsAll I ds _ its ha rv
      have hn : its.length = ds.length := SeqAt.ReadsAll.length ds its as h4
      have hmap : its.map (SeqAt.readOf s.heap) = ds := SeqAt.readsAll_map ds its as hxs h4
      have hvl := rv.length
      have hsl := sizeLine_eq
      obtain ⟨hjd, _⟩ := List.getElem?_eq_some_iff.mp hz
      have hjl : j < its.length := by omega
      have hj : j < its.toArray.size := by simpa using hjl
      have at_ : ∀ (m : Nat) (hm : m < its.toArray.size) (z' : PyData), ds[m]? = some z' → SeqAt.readOf s.heap its.toArray[m] = z' := by
        intro m hm z' hz'
        have hml : m < its.length := by simpa using hm
        rw [← hmap, List.getElem?_map, List.getElem?_eq_getElem hml] at hz'
        have e1 : SeqAt.readOf s.heap its[m] = z' := Option.some.inj (show some (SeqAt.readOf s.heap its[m]) = some z' from hz')
        simpa using e1
      have sf : SeqAt.searchFrom k its.toArray.size = k.toNat := SeqAt.searchFrom_nonneg k0 _
      have eqs := SeqAt.items_eqAt (A := X.A) (vs := its.toArray) (show ReadsAll s.heap its.toArray.toList ds as from h4) r1 hxs (SeqAt.canLay_of_shaped sd) hroom
      refine call_meets PySem.F.slot_list_index ⟨_, ho, rfl⟩ PySem.F.entry_list_index (PySem.F.args_list_index_3 _ _ _)
        (SeqAt.list_index3_found a its.toArray n dd sls uy (fun m => PyData.eqv (SeqAt.readOf s.heap (its.toArray[m]?.getD .none)) d) k tk j hj (by rw [sf]; omega) (by omega) ?_ ?_) ⟨ho, fun m hm => ?_, ?_⟩
      · show PyData.eqv (SeqAt.readOf s.heap (its.toArray[j]?.getD .none)) d = true
        rw [Array.getElem?_eq_getElem hj, Option.getD_some, at_ j hj z hz]
        exact hzj
      · intro m hm hkm hmj
        have hmd : m < ds.length := by omega
        have hz' : ds[m]? = some ds[m] := List.getElem?_eq_getElem hmd
        show PyData.eqv (SeqAt.readOf s.heap (its.toArray[m]?.getD .none)) d = false
        rw [Array.getElem?_eq_getElem hm, Option.getD_some, at_ m hm _ hz']
        exact hno m _ (by rw [sf] at hkm; omega) hmj hz'
      · show SeqAt.EqAt _ _ _ _ (PyData.eqv (SeqAt.readOf s.heap (its.toArray[m]?.getD .none)) d)
        rw [Array.getElem?_eq_getElem hm, Option.getD_some]
        exact eqs _ (Array.getElem_mem hm)
      · exact ⟨.int (j : Nat), H, I.tok _, ⟨_, rfl⟩, q⟩
theorem r_indexSg3 {K : PySem.W.Frag} {H : Hp} {Q : VK} {a : Addr} {xs : List V} {v : V} {m : List Tl.Sg} {x : Tl.Sg} {j : Nat} {k : Int} (hl : SqL K H a xs) (hm : SgL K H xs m) (hv : SgV K H v x) (hj : m[j]? = some x) (k0 : 0 ≤ k) (kj : k ≤ (j : Int)) (hno : ∀ i, i < j → m[i]? ≠ some x) (q : Q (.int (j : Nat)) H) :
    rIndexD3 K (.ref a) [v, .int k] H Q := by
  refine ⟨a, v, sgD x, m.map sgD, j, sgD x, k, rfl, rfl, .lst hl hm.dps, hv.dp, sgs_shaped m, sg_shaped x, by rw [List.getElem?_map, hj]; rfl, by rw [sg_eqv]; simp, k0, kj, fun i z _ hi hz => ?_, q⟩
  rw [List.getElem?_map] at hz
  obtain ⟨y, hy, rfl⟩ := Option.map_eq_some_iff.mp hz
  rw [sg_eqv]
  refine decide_eq_false fun e => hno i hi ?_
  rw [hy, e]
def p0 {α : Type} : List α → List α → List α
  | [], [a] => [a]
  | _, _ => []
theorem p0_rel {vs zs : List V} {us ws : List Value} (r : Vals vs us) (q : Vals zs ws) : Vals (p0 vs zs) (p0 us ws) := by
  cases r with
  | cons => exact .nil
  | nil => rcases q with _ | ⟨a, _ | _⟩
           · exact .nil
           · exact .cons a .nil
           · exact .nil
def p2310 {α : Type} : List α → List α → List α
  | [], [a, b, c, d] => [c, d, b, a]
  | _, _ => []
theorem p2310_rel {vs zs : List V} {us ws : List Value} (r : Vals vs us) (q : Vals zs ws) : Vals (p2310 vs zs) (p2310 us ws) := by
  cases r with
  | cons => exact .nil
  | nil => rcases q with _ | ⟨a, _ | ⟨b, _ | ⟨c, _ | ⟨d, _ | _⟩⟩⟩⟩
           · exact .nil
           · exact .nil
           · exact .nil
           · exact .nil
           · exact .cons c (.cons d (.cons b (.cons a .nil)))
           · exact .nil
theorem r_m1 {r : V → List V → Hp → VK → Prop} {σ : L2.St} {H : Hp} {Q : VK} {to te : TE} (h : to σ H fun x H1 => (∃ a, x = .str a) ∧ te σ H1 fun y H2 => r x [y] H2 Q) : tM1 r to te σ H Q := h
theorem r_lcTo {K : PySem.W.Frag} {tl : TE} {g : TG} {tt : TT} {te : TE} {vs : List Nat} {σ : L2.St} {H : Hp} {Q : VK} (h : tl σ H fun x H1 => ∃ a, x = .ref a ∧ (∃ xs, SqT K H1 a xs) ∧ ∀ D, H1 D = none → ∃ W : Nat → Nat → Hp → Prop, (∃ m, W 0 m (upd H1 D (.lst []))) ∧ ∀ i m H, W i m H →
  ((Itt K a).stop i H ∧ Q (.ref D) H) ∨ ((Itt K a).go i H ∧ ∃ Nx : Hp → Prop, (∀ H', Nx H' → ∃ m', m' < m ∧ W (i + 1) m' H') ∧ ∀ x H', (Itt K a).yld i H x H' → g x (wipe σ vs) H' fun σ2 H2 => wipe σ2 vs = wipe σ vs ∧ tt σ2 H2 fun b H3 =>
    if b = true then te σ2 H3 fun y H4 => ∃ acc, H4 D = some (.lst acc) ∧ acc.length < sizeLine ∧ Nx (upd H4 D (.lst (acc ++ [y]))) else Nx H3)) : tLc (iTup K tl) g tt te vs σ H Q := h
theorem l_lcT {K : PySem.W.Frag} {a : Addr} {xs : List V} {g : TG} {tt : TT} {te : TE} {vs : List Nat} {σ : L2.St} {H1 : Hp} {Qd : Addr → Hp → Prop} (hs0 : SqT K H1 a xs) (Pv : Addr → Nat → Hp → Prop) (h0 : ∀ D, H1 D = none → Pv D 0 (upd H1 D (.lst []))) (hl : ∀ D i H, Pv D i H → SqT K H a xs)
    (hs : ∀ D (i : Nat) x H, H1 D = none → xs[i]? = some x → Pv D i H → g x (wipe σ vs) H fun σ2 H2 => wipe σ2 vs = wipe σ vs ∧ tt σ2 H2 fun b H3 =>
      if b = true then te σ2 H3 fun y H4 => ∃ acc, H4 D = some (.lst acc) ∧ acc.length < sizeLine ∧ Pv D (i + 1) (upd H4 D (.lst (acc ++ [y]))) else Pv D (i + 1) H3) (hd : ∀ D H, H1 D = none → Pv D xs.length H → Qd D H) :
    ∃ b, V.ref a = .ref b ∧ (∃ xs, SqT K H1 b xs) ∧ ∀ D, H1 D = none → ∃ W : Nat → Nat → Hp → Prop, (∃ m, W 0 m (upd H1 D (.lst []))) ∧ ∀ i m H, W i m H →
  ((Itt K b).stop i H ∧ Qd D H) ∨ ((Itt K b).go i H ∧ ∃ Nx : Hp → Prop, (∀ H', Nx H' → ∃ m', m' < m ∧ W (i + 1) m' H') ∧ ∀ x H', (Itt K b).yld i H x H' → g x (wipe σ vs) H' fun σ2 H2 => wipe σ2 vs = wipe σ vs ∧ tt σ2 H2 fun b H3 =>
    if b = true then te σ2 H3 fun y H4 => ∃ acc, H4 D = some (.lst acc) ∧ acc.length < sizeLine ∧ Nx (upd H4 D (.lst (acc ++ [y]))) else Nx H3) :=
  ⟨a, rfl, ⟨xs, hs0⟩, fun D hD => lc_tup (Pv D) (h0 D hD) (fun i H _ p => hl D i H p) (fun i x H hx p => hs D i x H hD hx p) fun H p => hd D H hD p⟩
/-- over the keys of a locked dict -/
theorem l_K {d : Addr} {o : Obj} {kvs : List (Key × V)} {g : TG} {tb : TS} {D : Ends} {σ : L2.St} {H : Hp} (hd : H d = some (.frz o (.dK kvs))) (Pv : Nat → L2.St → Hp → Prop) (p0 : Pv 0 σ H) (hl : ∀ i σ H, Pv i σ H → H d = some (.frz o (.dK kvs)))
    (ht : ∀ i k v σ H, kvs[i]? = some (k, v) → Pv i σ H → g (kV k) σ H fun σ2 H2 => tb { D with nx := Pv (i + 1), ct := Pv (i + 1), bk := D.nx } σ2 H2)
    (hn : ∀ σ H, Pv kvs.length σ H → D.nx σ H) :
    ∃ d' o', V.ref d = .ref d' ∧ ((∃ kvs, H d' = some (.frz o' (.dK kvs)) ∧ LoopW (Itk d' o' kvs) g tb D σ H) ∨ ∃ kvs, H d' = some (.frz o' (.dT kvs)) ∧ LoopW (Itkt d' o' kvs) g tb D σ H) := by
  refine ⟨d, o, rfl, .inl ⟨kvs, hd, for_it walk_keys Pv p0 (fun i σ H _ p => hl i σ H p) (fun i v σ H H' hi p y => ?_) hn⟩⟩
  obtain ⟨rfl, k, w, hk, rfl⟩ := y
  exact ht i k w σ _ hk p
theorem r_lcZo {K : PySem.W.Frag} {ta : TA} {g : TG} {tt : TT} {te : TE} {vs : List Nat} {σ : L2.St} {H : Hp} {Q : VK} (h : ta σ H fun us H1 => ∃ k1 k2 : Zp.Kd, us = [k1.v, k2.v] ∧ (∃ xs, k1.has K H1 xs) ∧ (∃ ys, k2.has K H1 ys) ∧ ∀ D, H1 D = none → ∃ W : Nat → Nat → Hp → Prop, (∃ m, W 0 m (upd H1 D (.lst []))) ∧ ∀ i m H, W i m H →
  ((Zp.ItzK K k1 k2).stop i H ∧ Q (.ref D) H) ∨ ((Zp.ItzK K k1 k2).go i H ∧ ∃ Nx : Hp → Prop, (∀ H', Nx H' → ∃ m', m' < m ∧ W (i + 1) m' H') ∧ ∀ x H', (Zp.ItzK K k1 k2).yld i H x H' → g x (wipe σ vs) H' fun σ2 H2 => wipe σ2 vs = wipe σ vs ∧ tt σ2 H2 fun b H3 =>
    if b = true then te σ2 H3 fun y H4 => ∃ acc, H4 D = some (.lst acc) ∧ acc.length < sizeLine ∧ Nx (upd H4 D (.lst (acc ++ [y]))) else Nx H3)) : tLc (Zp.iZipK K ta) g tt te vs σ H Q := h
theorem l_lcZ {K : PySem.W.Frag} (k1 k2 : Zp.Kd) {xs ys : List V} {g : TG} {tt : TT} {te : TE} {vs : List Nat} {σ : L2.St} {H1 : Hp} {Qd : Addr → Hp → Prop} (hx : k1.has K H1 xs) (hy : k2.has K H1 ys) (Pv : Addr → Nat → Hp → Prop) (h0 : ∀ D, H1 D = none → Pv D 0 (upd H1 D (.lst [])))
    (hl : ∀ D i H, Pv D i H → k1.has K H xs ∧ k2.has K H ys)
    (hs : ∀ D (i : Nat) x y H p, H1 D = none → xs[i]? = some x → ys[i]? = some y → Pv D i H → H p = none → g (.ref p) (wipe σ vs) (upd H p (.tup [x, y])) fun σ2 H2 => wipe σ2 vs = wipe σ vs ∧ tt σ2 H2 fun b H3 =>
      if b = true then te σ2 H3 fun y H4 => ∃ acc, H4 D = some (.lst acc) ∧ acc.length < sizeLine ∧ Pv D (i + 1) (upd H4 D (.lst (acc ++ [y]))) else Pv D (i + 1) H3) (hd : ∀ D H, H1 D = none → Pv D (min xs.length ys.length) H → Qd D H) :
    ∃ k1' k2' : Zp.Kd, [k1.v, k2.v] = [k1'.v, k2'.v] ∧ (∃ xs, k1'.has K H1 xs) ∧ (∃ ys, k2'.has K H1 ys) ∧ ∀ D, H1 D = none → ∃ W : Nat → Nat → Hp → Prop, (∃ m, W 0 m (upd H1 D (.lst []))) ∧ ∀ i m H, W i m H →
  ((Zp.ItzK K k1' k2').stop i H ∧ Qd D H) ∨ ((Zp.ItzK K k1' k2').go i H ∧ ∃ Nx : Hp → Prop, (∀ H', Nx H' → ∃ m', m' < m ∧ W (i + 1) m' H') ∧ ∀ x H', (Zp.ItzK K k1' k2').yld i H x H' → g x (wipe σ vs) H' fun σ2 H2 => wipe σ2 vs = wipe σ vs ∧ tt σ2 H2 fun b H3 =>
    if b = true then te σ2 H3 fun y H4 => ∃ acc, H4 D = some (.lst acc) ∧ acc.length < sizeLine ∧ Nx (upd H4 D (.lst (acc ++ [y]))) else Nx H3) :=
  ⟨k1, k2, rfl, ⟨_, hx⟩, ⟨_, hy⟩, fun D hD => lc_it (Zp.walk_zipK rfl) (Pv D) (h0 D hD) (fun i H _ p => hl D i H p) (fun i v H H' hi p y => by
    obtain ⟨T, a, b, rfl, hT, rfl, ha, hb⟩ := y
    exact hs D i a b H T hD ha hb p hT) fun H p => hd D H hD p⟩
/-- over zip(tuple, tuple) -/
theorem l_ZK {K : PySem.W.Frag} (k1 k2 : Zp.Kd) {xs ys : List V} {g : TG} {tb : TS} {D : Ends} {σ : L2.St} {H : Hp} (hx : k1.has K H xs) (hy : k2.has K H ys) (Pv : Nat → L2.St → Hp → Prop) (p0 : Pv 0 σ H) (hl : ∀ i σ H, Pv i σ H → k1.has K H xs ∧ k2.has K H ys)
    (ht : ∀ i x y σ H p, xs[i]? = some x → ys[i]? = some y → Pv i σ H → H p = none → g (.ref p) σ (upd H p (.tup [x, y])) fun σ2 H2 => tb { D with nx := Pv (i + 1), ct := Pv (i + 1), bk := D.nx } σ2 H2)
    (hd : ∀ σ H, Pv (min xs.length ys.length) σ H → D.nx σ H) :
    ∃ k1' k2' : Zp.Kd, [k1.v, k2.v] = [k1'.v, k2'.v] ∧ (∃ xs, k1'.has K H xs) ∧ (∃ ys, k2'.has K H ys) ∧ LoopW (Zp.ItzK K k1' k2') g tb D σ H := by
  refine ⟨k1, k2, rfl, ⟨_, hx⟩, ⟨_, hy⟩, for_it (Zp.walk_zipK (xs := xs) (ys := ys) rfl) Pv p0 (fun i σ H _ p => hl i σ H p) (fun i v σ H H' hi p yy => ?_) hd⟩
  obtain ⟨T, a, b, rfl, hT, rfl, ha, hb⟩ := yy
  exact ht i a b σ H T ha hb p hT
/-! ### a class of two fields -/
section
variable {K : PySem.W.Frag} {σ : L2.St} {H : Hp} {C : Addr} {f g : Str} {v u : V} {W : XK}
def spInit2 (C : Addr) (f g : Str) : Sp := fun vs H Q _ => ∃ (a : Addr) (v u : V), vs = [.ref a, v, u] ∧ H a = some (exo a C none) ∧
  ∀ dx, H dx = none → dx ≠ a → Q .non (upd (upd (upd H dx (exd dx [(f, v)])) a (exo a C (some dx))) dx (exd dx [(g, u), (f, v)]))
theorem r_raise2 (q : ∀ d, H d = none → W (.ref C) (some d) (upd H d (.xd [(g, u), (f, v)]))) :
    ([v, u] : List V).length ≤ 1000 ∧ ∀ a, H a = none → spInit2 C f g (.ref a :: ([v, u] ++ [])) (upd H a (exo a C none))
      (fun w H2 => w = .non ∧ ∃ (d : Addr) (fs : List (Str × V)), H2 a = some (exo a C (some d)) ∧ H2 d = some (exd d fs) ∧ H d = none ∧ W (.ref C) (some d) (upd (del H2 a) d (.xd fs))) (fun _ _ _ => False) := by
  refine ⟨by show 2 ≤ 1000; decide, fun a ha => ⟨a, v, u, rfl, upd_same, fun dx hdx hne => ⟨rfl, dx, [(g, u), (f, v)], ?_, upd_same, ?_, ?_⟩⟩⟩
  · rw [upd_ne hne.symm]
    exact upd_same
  · rw [upd_ne hne] at hdx
    exact hdx
  · rw [upd_ne hne] at hdx
    have e : upd (del (upd (upd (upd (upd H a (exo a C none)) dx (exd dx [(f, v)])) a (exo a C (some dx))) dx (exd dx [(g, u), (f, v)])) a) dx (.xd [(g, u), (f, v)]) = upd H dx (.xd [(g, u), (f, v)]) := by
      funext b
      by_cases h1 : b = dx
      · rw [h1, upd_same, upd_same]
      · rw [upd_ne h1, upd_ne h1]
        by_cases h2 : b = a
        · rw [h2, del_same, ha]
        · rw [del_ne h2, upd_ne h1, upd_ne h2, upd_ne h1, upd_ne h2]
    rw [e]
    exact q dx hdx
end
/-- for k in range(a, a + n) -/
theorem l_R2 {a n : Nat} {b : Int} {g : TG} {tb : TS} {σ : L2.St} {H : Hp} {D : Ends} (hb : b = ((a + n : Nat) : Int)) (h2 : a + n ≤ 1000000) (Pv : Nat → L2.St → Hp → Prop) (p0 : Pv 0 σ H)
    (ht : ∀ (i : Nat) σ H, i < n → Pv i σ H → g (.int ((a + i : Nat) : Int)) σ H fun σ2 H2 => tb { D with nx := Pv (i + 1), ct := Pv (i + 1), bk := D.nx } σ2 H2) (hd : ∀ σ H, Pv n σ H → D.nx σ H) :
    ∃ i j : Int, [V.int (a : Nat), V.int b] = [.int i, .int j] ∧ (-(2 ^ 62) ≤ i ∧ i < 2 ^ 62 ∧ -(2 ^ 62) ≤ j ∧ j < 2 ^ 62) ∧ LoopW (Itr i (j - i).toNat) g tb D σ H := by
  subst hb
  refine ⟨a, ((a + n : Nat) : Int), rfl, ⟨by omega, by omega, by omega, by omega⟩, for_range Pv p0 (fun i σ H hi p => ?_) fun σ H p => hd σ H ?_⟩
  · have z := ht i σ H (by omega) p
    rw [show ((a : Nat) : Int) + (i : Nat) = ((a + i : Nat) : Int) by omega]
    exact z
  · have e : (((a + n : Nat) : Int) - ((a : Nat) : Int)).toNat = n := by omega
    rw [e] at p
    exact p
/-! ### over a list or a tuple -/
def iEith (K : PySem.W.Frag) (tl : TE) : TI := fun σ H R => tl σ H fun x H1 => ∃ a, x = .ref a ∧ (((∃ xs, SqL K H1 a xs) ∧ R (Itl K a) H1) ∨ ((∃ xs, SqT K H1 a xs) ∧ R (Itt K a) H1))
theorem pi_eith {X : Cx} {tg l : Expr} {tl : TE} (hl : PE X l tl) : PI X tg l (iEith X.K tl) := by
  refine ⟨fun pins s σ H R I h => ?_⟩
  refine thn (hl.run pins s σ H _ I h) fun v s1 ⟨x, H1, I1, r1, q1⟩ => ?_
  obtain ⟨a, e, q1⟩ := q1
  subst e
  cases r1
  rcases q1 with ⟨⟨xs, hq⟩, q⟩ | ⟨⟨xs, hq⟩, q⟩
  · obtain ⟨its, rv, p, hz⟩ := I1.list hq
    refine wpAny_pyIter_list p.isList ?_
    refine ⟨s1.heap.objs.size, [s1.heap.objs.size], _, _, H1, rfl, I1.kept (t' := s1.toks) fun b o e => Heap.get?_push_of_some _ e, turn_list a _, ⟨_, Heap.get?_push_size _ rfl, rfl, rfl⟩, fun b hb => ?_, q⟩
    have e : b = s1.heap.objs.size := by simpa using hb
    subst e
    exact I1.fpOk (Nat.le_refl _) (I1.hok.fresh (Nat.le_refl _))
  · obtain ⟨its, rv, p, hz⟩ := I1.tuple hq
    refine wpAny_pyIter_tuple (show s1.heap.IsTuple a its.toArray from p) ?_
    refine ⟨s1.heap.objs.size, [s1.heap.objs.size], _, _, H1, rfl, I1.kept (t' := s1.toks) fun b o e => Heap.get?_push_of_some _ e, turn_tuple a _, ⟨_, Heap.get?_push_size _ rfl, rfl, rfl⟩, fun b hb => ?_, q⟩
    have e : b = s1.heap.objs.size := by simpa using hb
    subst e
    exact I1.fpOk (Nat.le_refl _) (I1.hok.fresh (Nat.le_refl _))
section
variable {K : PySem.W.Frag} {tl : TE} {g : TG} {tb : TS} {D : Ends} {σ : L2.St} {H : Hp}
theorem r_forEi (h : tl σ H fun x H1 => ∃ a, x = .ref a ∧ (((∃ xs, SqL K H1 a xs) ∧ LoopW (Itl K a) g tb D σ H1) ∨ ((∃ xs, SqT K H1 a xs) ∧ LoopW (Itt K a) g tb D σ H1))) : tFor (iEith K tl) g tb D σ H := h
theorem l_EL {a : Addr} {xs : List V} (hs : SqL K H a xs) (Pv : Nat → L2.St → Hp → Prop) (p0 : Pv 0 σ H) (hl : ∀ i σ H, Pv i σ H → SqL K H a xs)
    (ht : ∀ i x σ H, xs[i]? = some x → Pv i σ H → g x σ H fun σ2 H2 => tb { D with nx := Pv (i + 1), ct := Pv (i + 1), bk := D.nx } σ2 H2) (hd : ∀ σ H, Pv xs.length σ H → D.nx σ H) :
    ∃ b, V.ref a = .ref b ∧ (((∃ xs, SqL K H b xs) ∧ LoopW (Itl K b) g tb D σ H) ∨ ((∃ xs, SqT K H b xs) ∧ LoopW (Itt K b) g tb D σ H)) := by
  obtain ⟨b, e, h1, h2⟩ := l_L hs Pv p0 hl ht hd
  exact ⟨b, e, .inl ⟨h1, h2⟩⟩
theorem l_ET {a : Addr} {xs : List V} (hs : SqT K H a xs) (Pv : Nat → L2.St → Hp → Prop) (p0 : Pv 0 σ H) (hl : ∀ i σ H, Pv i σ H → SqT K H a xs)
    (ht : ∀ i x σ H, xs[i]? = some x → Pv i σ H → g x σ H fun σ2 H2 => tb { D with nx := Pv (i + 1), ct := Pv (i + 1), bk := D.nx } σ2 H2) (hd : ∀ σ H, Pv xs.length σ H → D.nx σ H) :
    ∃ b, V.ref a = .ref b ∧ (((∃ xs, SqL K H b xs) ∧ LoopW (Itl K b) g tb D σ H) ∨ ((∃ xs, SqT K H b xs) ∧ LoopW (Itt K b) g tb D σ H)) := by
  obtain ⟨b, e, h1, h2⟩ := l_T hs Pv p0 hl ht hd
  exact ⟨b, e, .inr ⟨h1, h2⟩⟩
theorem r_inSg {Q : VK} {v : V} {p : Addr} {xs : List V} {x : Tl.Sg} {m : List Tl.Sg} (h1 : SgV K H v x) (hp : SqL K H p xs) (h2 : SgL K H xs m) (q : Q (.bl (decide (x ∈ m))) H) : rInD K v (.ref p) H Q := by
  exact ⟨_, _, h1.dp, .lst hp h2.dps, sg_shaped x, sgs_shaped m, by
    have e : ((m.map sgD).any fun z => PyData.eqv z (sgD x)) = decide (x ∈ m) := by
      rw [List.any_map, Bool.eq_iff_iff, List.any_eq_true, decide_eq_true_iff]
      constructor
      · rintro ⟨y, hy, e⟩
        rw [Function.comp_apply, sg_eqv, decide_eq_true_iff] at e
        rw [← e]
        exact hy
      · intro h
        exact ⟨x, h, by rw [Function.comp_apply, sg_eqv]; exact decide_eq_true rfl⟩
    rw [e]
    exact q⟩
end
section
variable {K : PySem.W.Frag} {a : Addr} {xs : List V} {g : TG} {tt : TT} {te : TE} {vs : List Nat} {σ : L2.St} {H1 : Hp} {Qd : Addr → Hp → Prop}
/-- what a comprehension over such a thing asks -/
def LcI (J : It) (g : TG) (tt : TT) (te : TE) (vs : List Nat) (σ : L2.St) (H1 : Hp) (Qd : Addr → Hp → Prop) : Prop := ∀ D, H1 D = none → ∃ W : Nat → Nat → Hp → Prop, (∃ m, W 0 m (upd H1 D (.lst []))) ∧ ∀ i m H, W i m H →
  (J.stop i H ∧ Qd D H) ∨ (J.go i H ∧ ∃ Nx : Hp → Prop, (∀ H', Nx H' → ∃ m', m' < m ∧ W (i + 1) m' H') ∧ ∀ x H', J.yld i H x H' → g x (wipe σ vs) H' fun σ2 H2 => wipe σ2 vs = wipe σ vs ∧ tt σ2 H2 fun b H3 =>
    if b = true then te σ2 H3 fun y H4 => ∃ acc, H4 D = some (.lst acc) ∧ acc.length < sizeLine ∧ Nx (upd H4 D (.lst (acc ++ [y]))) else Nx H3)
theorem r_lcEio {tl : TE} {H : Hp} {Q : VK} (h : tl σ H fun x H1 => ∃ a, x = .ref a ∧ (((∃ xs, SqL K H1 a xs) ∧ LcI (Itl K a) g tt te vs σ H1 fun D H => Q (.ref D) H) ∨ ((∃ xs, SqT K H1 a xs) ∧ LcI (Itt K a) g tt te vs σ H1 fun D H => Q (.ref D) H))) : tLc (iEith K tl) g tt te vs σ H Q := h
theorem l_lcEL (hs0 : SqL K H1 a xs) (Pv : Addr → Nat → Hp → Prop) (h0 : ∀ D, H1 D = none → Pv D 0 (upd H1 D (.lst []))) (hl : ∀ D i H, Pv D i H → SqL K H a xs)
    (hs : ∀ D (i : Nat) x H, H1 D = none → xs[i]? = some x → Pv D i H → g x (wipe σ vs) H fun σ2 H2 => wipe σ2 vs = wipe σ vs ∧ tt σ2 H2 fun b H3 =>
      if b = true then te σ2 H3 fun y H4 => ∃ acc, H4 D = some (.lst acc) ∧ acc.length < sizeLine ∧ Pv D (i + 1) (upd H4 D (.lst (acc ++ [y]))) else Pv D (i + 1) H3) (hd : ∀ D H, H1 D = none → Pv D xs.length H → Qd D H) :
    ∃ b, V.ref a = .ref b ∧ (((∃ xs, SqL K H1 b xs) ∧ LcI (Itl K b) g tt te vs σ H1 Qd) ∨ ((∃ xs, SqT K H1 b xs) ∧ LcI (Itt K b) g tt te vs σ H1 Qd)) := by
  obtain ⟨b, e, h1, h2⟩ := l_lcL hs0 Pv h0 hl hs hd
  exact ⟨b, e, .inl ⟨h1, h2⟩⟩
theorem l_lcET (hs0 : SqT K H1 a xs) (Pv : Addr → Nat → Hp → Prop) (h0 : ∀ D, H1 D = none → Pv D 0 (upd H1 D (.lst []))) (hl : ∀ D i H, Pv D i H → SqT K H a xs)
    (hs : ∀ D (i : Nat) x H, H1 D = none → xs[i]? = some x → Pv D i H → g x (wipe σ vs) H fun σ2 H2 => wipe σ2 vs = wipe σ vs ∧ tt σ2 H2 fun b H3 =>
      if b = true then te σ2 H3 fun y H4 => ∃ acc, H4 D = some (.lst acc) ∧ acc.length < sizeLine ∧ Pv D (i + 1) (upd H4 D (.lst (acc ++ [y]))) else Pv D (i + 1) H3) (hd : ∀ D H, H1 D = none → Pv D xs.length H → Qd D H) :
    ∃ b, V.ref a = .ref b ∧ (((∃ xs, SqL K H1 b xs) ∧ LcI (Itl K b) g tt te vs σ H1 Qd) ∨ ((∃ xs, SqT K H1 b xs) ∧ LcI (Itt K b) g tt te vs σ H1 Qd)) := by
  obtain ⟨b, e, h1, h2⟩ := l_lcT hs0 Pv h0 hl hs hd
  exact ⟨b, e, .inr ⟨h1, h2⟩⟩
end
/-- any of the two bits -/
theorem two_bits (x y a b : Nat) : decide (V.int (Builtin.bitAnd (Builtin.bitOr ((x : Int) / 2 ^ ((b : Int)).toNat) ((y : Int) / 2 ^ ((a : Int)).toNat)) 1) = V.int 0) = (!x.testBit b && !y.testBit a) := by
  have hx : ((x : Int) / 2 ^ ((b : Int)).toNat) = ((x >>> b : Nat) : Int) := by
    rw [Int.toNat_natCast, Nat.shiftRight_eq_div_pow]
    push_cast
    rfl
  have hy : ((y : Int) / 2 ^ ((a : Int)).toNat) = ((y >>> a : Nat) : Int) := by
    rw [Int.toNat_natCast, Nat.shiftRight_eq_div_pow]
    push_cast
    rfl
  rw [hx, hy, Bits.bitOr_pp (Int.natCast_nonneg _) (Int.natCast_nonneg _), Int.toNat_natCast, Int.toNat_natCast]
  have h1 : Builtin.bitAnd (((x >>> b ||| y >>> a : Nat)) : Int) 1 = (((x >>> b ||| y >>> a) &&& 1 : Nat) : Int) := by
    rw [PyProof.Rows.bitAnd_pp (Int.natCast_nonneg _) (by decide), Int.toNat_natCast]
    rfl
  rw [h1, Bool.eq_iff_iff, decide_eq_true_iff, Bool.and_eq_true]
  have e : (x >>> b ||| y >>> a).testBit 0 = (x.testBit b || y.testBit a) := by
    rw [Nat.testBit_or, Nat.testBit_shiftRight, Nat.testBit_shiftRight]
    rfl
  have e2 : ((x >>> b ||| y >>> a) &&& 1) = if (x >>> b ||| y >>> a).testBit 0 then 1 else 0 := by
    rw [Nat.and_one_is_mod, Nat.testBit_zero]
    rcases Nat.mod_two_eq_zero_or_one (x >>> b ||| y >>> a) with h | h <;> simp [h]
  rw [e2, e]
  cases x.testBit b <;> cases y.testBit a <;> simp
end Dk

namespace Tl
/-! ### hops -/
inductive Hps (L R : Nat → Sg) : Sg → Sg → List (Sg × Sg) → Prop where
  | stop {x y : Sg} (h : x.1 = y.1) : Hps L R x y [(x, y)]
  | rgo {x y : Sg} {hs : List (Sg × Sg)} (h : y.1 < x.1) (t : Hps L R (R x.1) y hs) : Hps L R x y ((x, y) :: hs)
  | lgo {x y : Sg} {hs : List (Sg × Sg)} (h : x.1 < y.1) (t : Hps L R x (L y.1) hs) : Hps L R x y ((x, y) :: hs)
section
variable {L R : Nat → Sg} {x y : Sg} {hs hs' : List (Sg × Sg)}
theorem Hps.det (h : Hps L R x y hs) : ∀ {hs'}, Hps L R x y hs' → hs = hs' := by
  induction h with
  | stop h => intro hs' g; cases g with
    | stop _ => rfl
    | rgo k _ => omega
    | lgo k _ => omega
  | rgo h t ih => intro hs' g; cases g with
    | stop k => omega
    | rgo _ t' => rw [ih t']
    | lgo k _ => omega
  | lgo h t ih => intro hs' g; cases g with
    | stop k => omega
    | rgo k _ => omega
    | lgo _ t' => rw [ih t']
theorem E.iff_le {x y : Sg} (h : x.1 = y.1) : E L R x y ↔ x.2 ≤ y.2 := by
  unfold E
  rw [A.same_iff h]
  constructor
  · rintro (rfl | h) <;> omega
  · intro h2
    by_cases e : x.2 = y.2
    · exact .inl (Prod.ext h e)
    · exact .inr (by omega)
theorem E.iff_A {x y : Sg} (h : x.1 ≠ y.1) : E L R x y ↔ A L R x y := ⟨fun e => e.elim (fun z => absurd (congrArg Prod.fst z) h) id, .inr⟩
theorem Hps.last (h : Hps L R x y hs) : ∃ l r pre, hs = pre ++ [(l, r)] ∧ (E L R x y ↔ l.2 ≤ r.2) ∧ (A L R x y ↔ l.2 < r.2 ∨ (l.2 = r.2 ∧ 1 < hs.length)) := by
  induction h with
  | @stop x y h =>
    refine ⟨x, y, [], rfl, E.iff_le h, ?_⟩
    rw [A.same_iff h]
    simp
  | @rgo x y hs h t ih =>
    obtain ⟨l, r, pre, rfl, h1, h2⟩ := ih
    have e : E L R x y ↔ l.2 ≤ r.2 := by rw [E.iff_A (by omega), A.r_iff h]; exact h1
    refine ⟨l, r, (x, y) :: pre, rfl, e, ?_⟩
    rw [A.r_iff h, h1]
    simp
    omega
  | @lgo x y hs h t ih =>
    obtain ⟨l, r, pre, rfl, h1, h2⟩ := ih
    have e : E L R x y ↔ l.2 ≤ r.2 := by rw [E.iff_A (by omega), A.l_iff h]; exact h1
    refine ⟨l, r, (x, y) :: pre, rfl, e, ?_⟩
    rw [A.l_iff h, h1]
    simp
    omega
end
end Tl

namespace K23
open PySem PySem.Spec PyProof.Rows L2 Dk Tl
/-- one step of a reading -/
local macro_rules | `(tactic| walk_at "rd1") => `(tactic| first
  | ((with_reducible refine r_var (v := ?rv) ?rh ?_); (case rh => rfl))
  | with_reducible refine r_c ?_
  | with_reducible refine r_seq ?_
  | with_reducible refine r_asg ?_
  | with_reducible refine r_par ?_
  | with_reducible refine r_gname ?_
  | with_reducible refine r_op ?_
  | with_reducible refine r_forLo ?_
  | with_reducible refine r_forTo ?_
  | with_reducible refine r_forSo ?_
  | with_reducible refine r_forRo ?_
  | with_reducible refine r_forRvo ?_
  | with_reducible refine r_forZo ?_
  | with_reducible refine r_revS ?_
  | with_reducible refine r_lcRo ?_
  | with_reducible refine r_lcLo ?_
  | with_reducible refine r_yes ?_
  | with_reducible refine r_callK0 ?_
  | with_reducible refine r_break ?_
  | with_reducible refine r_forR2o ?_
  | with_reducible refine r_forEo ?_
  | with_reducible refine r_forESo ?_
  | with_reducible refine r_xfo ?_
  | with_reducible refine r_noP ?_
  | with_reducible refine r_part ?_
  | with_reducible refine r_pI ?_
  | with_reducible refine r_gcons ?_
  | with_reducible refine r_gnil ?_
  | with_reducible refine r_mkO ?_
  | with_reducible refine r_un ?_
  | with_reducible refine r_addI ?_
  | with_reducible refine r_I0 ?_
  | with_reducible refine r_U ?_
  | with_reducible refine r_cons ?_
  | with_reducible refine r_nil ?_
  | with_reducible refine r_CB ?_
  | with_reducible refine r_call ?_
  | with_reducible refine r_callS ?_
  | with_reducible refine r_int ?_
  | with_reducible refine r_max ?_
  | with_reducible refine r_min ?_
  | with_reducible refine r_test ?_
  | with_reducible refine r_B ?_
  | with_reducible refine r_blv ?_
  | with_reducible refine r_and ?_
  | with_reducible refine r_or ?_
  | with_reducible refine r_not ?_
  | with_reducible refine r_andV ?_
  | with_reducible refine r_orV ?_
  | with_reducible refine r_notV ?_
  | with_reducible refine r_ifE ?_
  | with_reducible refine r_ifS ?_
  | with_reducible refine r_ret ?_
  | with_reducible refine r_retN ?_
  | with_reducible refine r_drop ?_
  | with_reducible refine r_next ?_
  | with_reducible refine r_sl ?_
  | with_reducible refine r_gsub ?_
  | with_reducible refine r_bm ?_
  | with_reducible refine r_tup ?_
  | with_reducible refine r_lst ?_
  | with_reducible refine r_isN ?_
  | with_reducible refine r_notN ?_
  | with_reducible refine r_chain ?_
  | with_reducible refine r_lcEio ?_
  | with_reducible refine r_forEi ?_
  | with_reducible refine r_lcTo ?_
  | with_reducible refine r_m1 ?_
  | with_reducible refine r_dget ?_
  | with_reducible refine r_din ?_
  | with_reducible refine r_dnotin ?_
  | with_reducible refine r_starC ?_
  | with_reducible refine r_callKS ?_
  | with_reducible refine r_itt ?_
  | with_reducible refine r_iff ?_
  | with_reducible refine r_ittN ?_
  | with_reducible refine r_iffN ?_
  | ((with_reducible refine r_ittD ?rh ?_); (case rh => rfl))
  | ((with_reducible refine r_iffD ?rh ?_); (case rh => rfl))
  | ((with_reducible refine r_modP ?rh ?_); (case rh => decide))
  | ((with_reducible refine r_eq ?rh ?_); (case rh => rfl))
  | ((with_reducible refine r_eqP ?rh ?_); (case rh => rfl))
  | ((with_reducible refine r_ne ?rh ?_); (case rh => rfl)))
local macro_rules | `(tactic| walk_at "rd") => `(tactic| repeat walk_at "rd1")
local macro_rules | `(tactic| walk_at "isi") => `(tactic| first | refine r_isi (b := true) (by assumption) (by decide +kernel) ?_ | refine r_isi (b := false) (by assumption) (by decide +kernel) ?_)
local macro_rules | `(tactic| walk_at "rs1") => `(tactic| first
  | with_reducible refine r_seq ?_
  | with_reducible refine r_asg ?_
  | with_reducible refine r_gname ?_
  | with_reducible refine r_ret ?_)
local macro_rules | `(tactic| walk_at "rs") => `(tactic| repeat walk_at "rs1")

def topS (i : Nat) : Stmt := PySem.Challenge.pw_deedstand_k23_whole_settled_exactly.main.body.getD i (.Pass ⟨0, 0, 0, 0⟩)
abbrev s_hops_of : Stmt := topS 5
abbrev N_hops_of : List Str := ["births", "one", "other", "hops"]
theorem sc_hops_of : FnScope ["births", "one", "other", "hops"] ["births", "one", "other"] (defScope s_hops_of) := ⟨rfl, rfl, rfl, by decide +kernel, rfl, by decide +kernel, by decide +kernel⟩
abbrev s_told_ahead : Stmt := topS 6
abbrev N_told_ahead : List Str := ["births", "one", "other", "hops", "left", "right"]
theorem sc_told_ahead : FnScope ["births", "one", "other", "hops", "left", "right"] ["births", "one", "other"] (defScope s_told_ahead) := ⟨rfl, rfl, rfl, by decide +kernel, rfl, by decide +kernel, by decide +kernel⟩
abbrev s_at_or_ahead : Stmt := topS 7
abbrev N_at_or_ahead : List Str := ["births", "one", "other"]
theorem sc_at_or_ahead : FnScope ["births", "one", "other"] ["births", "one", "other"] (defScope s_at_or_ahead) := ⟨rfl, rfl, rfl, by decide +kernel, rfl, by decide +kernel, by decide +kernel⟩
abbrev s_letter_of : Stmt := topS 11
abbrev N_letter_of : List Str := ["births", "sign"]
theorem sc_letter_of : FnScope ["births", "sign"] ["births", "sign"] (defScope s_letter_of) := ⟨rfl, rfl, rfl, by decide +kernel, rfl, by decide +kernel, by decide +kernel⟩
abbrev s_chunk_size : Stmt := topS 12
abbrev N_chunk_size : List Str := ["births", "chunk"]
theorem sc_chunk_size : FnScope ["births", "chunk"] ["births", "chunk"] (defScope s_chunk_size) := ⟨rfl, rfl, rfl, by decide +kernel, rfl, by decide +kernel, by decide +kernel⟩
abbrev s_has_deed : Stmt := topS 14
abbrev N_has_deed : List Str := ["stand", "deed"]
theorem sc_has_deed : FnScope ["stand", "deed"] ["stand", "deed"] (defScope s_has_deed) := ⟨rfl, rfl, rfl, by decide +kernel, rfl, by decide +kernel, by decide +kernel⟩
abbrev s_choice_for : Stmt := topS 16
abbrev N_choice_for : List Str := ["choices", "chunk"]
theorem sc_choice_for : FnScope ["choices", "chunk"] ["choices", "chunk"] (defScope s_choice_for) := ⟨rfl, rfl, rfl, by decide +kernel, rfl, by decide +kernel, by decide +kernel⟩
abbrev s_laid_out : Stmt := topS 17
abbrev N_laid_out : List Str := ["births", "choices", "row", "chunk", "left", "right", "begin", "gap", "at", "index"]
theorem sc_laid_out : FnScope ["births", "choices", "row", "chunk", "left", "right", "begin", "gap", "at", "index"] ["births", "choices"] (defScope s_laid_out) := ⟨rfl, rfl, rfl, by decide +kernel, rfl, by decide +kernel, by decide +kernel⟩
abbrev s_own_keeper : Stmt := topS 18
abbrev N_own_keeper : List Str := ["births"]
theorem sc_own_keeper : FnScope ["births"] ["births"] (defScope s_own_keeper) := ⟨rfl, rfl, rfl, by decide +kernel, rfl, by decide +kernel, by decide +kernel⟩
abbrev s_cut_away : Stmt := topS 19
abbrev N_cut_away : List Str := ["cuts", "stand", "away", "deed", "chunk", "start", "many", "index"]
theorem sc_cut_away : FnScope ["cuts", "stand", "away", "deed", "chunk", "start", "many", "index"] ["cuts", "stand"] (defScope s_cut_away) := ⟨rfl, rfl, rfl, by decide +kernel, rfl, by decide +kernel, by decide +kernel⟩
abbrev s_shown_by : Stmt := topS 20
abbrev N_shown_by : List Str := ["births", "cuts", "keeper", "stand", "away", "put", "sign"]
theorem sc_shown_by : FnScope ["births", "cuts", "keeper", "stand", "away", "put", "sign"] ["births", "cuts", "keeper", "stand"] (defScope s_shown_by) := ⟨rfl, rfl, rfl, by decide +kernel, rfl, by decide +kernel, by decide +kernel⟩
abbrev s_letters_of : Stmt := topS 21
abbrev N_letters_of : List Str := ["births", "signs", "sign"]
theorem sc_letters_of : FnScope ["births", "signs", "sign"] ["births", "signs"] (defScope s_letters_of) := ⟨rfl, rfl, rfl, by decide +kernel, rfl, by decide +kernel, by decide +kernel⟩
abbrev s_first_untold : Stmt := topS 23
abbrev N_first_untold : List Str := ["births", "row", "one", "other"]
theorem sc_first_untold : FnScope ["births", "row", "one", "other"] ["births", "row"] (defScope s_first_untold) := ⟨rfl, rfl, rfl, by decide +kernel, rfl, by decide +kernel, by decide +kernel⟩
abbrev s_shown_signs : Stmt := topS 24
abbrev N_shown_signs : List Str := ["births", "cuts", "stand"]
theorem sc_shown_signs : FnScope ["births", "cuts", "stand"] ["births", "cuts", "stand"] (defScope s_shown_signs) := ⟨rfl, rfl, rfl, by decide +kernel, rfl, by decide +kernel, by decide +kernel⟩
abbrev s_is_settled : Stmt := topS 25
abbrev N_is_settled : List Str := ["births", "cuts", "stand"]
theorem sc_is_settled : FnScope ["births", "cuts", "stand"] ["births", "cuts", "stand"] (defScope s_is_settled) := ⟨rfl, rfl, rfl, by decide +kernel, rfl, by decide +kernel, by decide +kernel⟩
abbrev s_row_of : Stmt := topS 26
abbrev N_row_of : List Str := ["births", "cuts", "stand", "row", "untold"]
theorem sc_row_of : FnScope ["births", "cuts", "stand", "row", "untold"] ["births", "cuts", "stand"] (defScope s_row_of) := ⟨rfl, rfl, rfl, by decide +kernel, rfl, by decide +kernel, by decide +kernel⟩
abbrev s_text_of : Stmt := topS 27
abbrev N_text_of : List Str := ["births", "cuts", "stand"]
theorem sc_text_of : FnScope ["births", "cuts", "stand"] ["births", "cuts", "stand"] (defScope s_text_of) := ⟨rfl, rfl, rfl, by decide +kernel, rfl, by decide +kernel, by decide +kernel⟩
abbrev s_law_draws : Stmt := topS 29
abbrev N_law_draws : List Str := ["_law_script", "_law_state", "_law_heaps", "_law_cell", "_law_size"]
theorem sc_law_draws : FnScope ["_law_script", "_law_state", "_law_heaps", "_law_cell", "_law_size"] ["_law_script"] (defScope s_law_draws) := ⟨rfl, rfl, rfl, by decide +kernel, rfl, by decide +kernel, by decide +kernel⟩
abbrev s_law_pick : Stmt := topS 30
abbrev N_law_pick : List Str := ["_law_box", "_law_many", "_law_heaps", "_law_cell", "_law_mixed"]
theorem sc_law_pick : FnScope ["_law_box", "_law_many", "_law_heaps", "_law_cell", "_law_mixed"] ["_law_box", "_law_many"] (defScope s_law_pick) := ⟨rfl, rfl, rfl, by decide +kernel, rfl, by decide +kernel, by decide +kernel⟩
abbrev s_law_say : Stmt := topS 31
abbrev N_law_say : List Str := ["_law_box", "_law_most", "_law_every", "_law_size", "_law_k"]
theorem sc_law_say : FnScope ["_law_box", "_law_most", "_law_every", "_law_size", "_law_k"] ["_law_box", "_law_most"] (defScope s_law_say) := ⟨rfl, rfl, rfl, by decide +kernel, rfl, by decide +kernel, by decide +kernel⟩
abbrev s_law_all : Stmt := topS 32
abbrev N_law_all : List Str := ["_law_world", "_law_rows", "_law_c", "_law_i"]
theorem sc_law_all : FnScope ["_law_world", "_law_rows", "_law_c", "_law_i"] ["_law_world"] (defScope s_law_all) := ⟨rfl, rfl, rfl, by decide +kernel, rfl, by decide +kernel, by decide +kernel⟩
abbrev s_law_closed : Stmt := topS 33
abbrev N_law_closed : List Str := ["_law_world", "_law_marks", "_law_steps", "_law_c", "_law_size", "_law_first", "_law_i", "_law_table", "_law_turn", "_law_still", "_law_a", "_law_b", "_law_wide", "_law_k"]
theorem sc_law_closed : FnScope ["_law_world", "_law_marks", "_law_steps", "_law_c", "_law_size", "_law_first", "_law_i", "_law_table", "_law_turn", "_law_still", "_law_a", "_law_b", "_law_wide", "_law_k"] ["_law_world"] (defScope s_law_closed) := ⟨rfl, rfl, rfl, by decide +kernel, rfl, by decide +kernel, by decide +kernel⟩
abbrev s_law_behind : Stmt := topS 34
abbrev N_law_behind : List Str := ["_law_table", "_law_j", "_law_k"]
theorem sc_law_behind : FnScope ["_law_table", "_law_j", "_law_k"] ["_law_table", "_law_j"] (defScope s_law_behind) := ⟨rfl, rfl, rfl, by decide +kernel, rfl, by decide +kernel, by decide +kernel⟩
abbrev s_law_ahead : Stmt := topS 35
abbrev N_law_ahead : List Str := ["_law_table", "_law_j", "_law_k"]
theorem sc_law_ahead : FnScope ["_law_table", "_law_j", "_law_k"] ["_law_table", "_law_j"] (defScope s_law_ahead) := ⟨rfl, rfl, rfl, by decide +kernel, rfl, by decide +kernel, by decide +kernel⟩
abbrev s_law_close : Stmt := topS 36
abbrev N_law_close : List Str := ["_law_table", "_law_j", "_law_behind_here", "_law_found", "_law_k", "_law_m"]
theorem sc_law_close : FnScope ["_law_table", "_law_j", "_law_behind_here", "_law_found", "_law_k", "_law_m"] ["_law_table", "_law_j"] (defScope s_law_close) := ⟨rfl, rfl, rfl, by decide +kernel, rfl, by decide +kernel, by decide +kernel⟩
abbrev s_law_pair : Stmt := topS 37
abbrev N_law_pair : List Str := ["_law_box", "_law_table", "_law_mode", "_law_many", "_law_newest", "_law_ahead_here", "_law_behind_here", "_law_late", "_law_j"]
theorem sc_law_pair : FnScope ["_law_box", "_law_table", "_law_mode", "_law_many", "_law_newest", "_law_ahead_here", "_law_behind_here", "_law_late", "_law_j"] ["_law_box", "_law_table", "_law_mode"] (defScope s_law_pair) := ⟨rfl, rfl, rfl, by decide +kernel, rfl, by decide +kernel, by decide +kernel⟩
abbrev s_law_same : Stmt := topS 38
abbrev N_law_same : List Str := ["_law_a", "_law_b", "_law_k"]
theorem sc_law_same : FnScope ["_law_a", "_law_b", "_law_k"] ["_law_a", "_law_b"] (defScope s_law_same) := ⟨rfl, rfl, rfl, by decide +kernel, rfl, by decide +kernel, by decide +kernel⟩
abbrev s_law_laid : Stmt := topS 39
abbrev N_law_laid : List Str := ["_law_world", "_law_choices_here", "_law_row", "_law_c", "_law_low", "_law_room", "_law_at", "_law_i", "_law_k"]
theorem sc_law_laid : FnScope ["_law_world", "_law_choices_here", "_law_row", "_law_c", "_law_low", "_law_room", "_law_at", "_law_i", "_law_k"] ["_law_world", "_law_choices_here"] (defScope s_law_laid) := ⟨rfl, rfl, rfl, by decide +kernel, rfl, by decide +kernel, by decide +kernel⟩
abbrev s_law_num : Stmt := topS 40
abbrev N_law_num : List Str := ["_law_kind", "_law_d"]
theorem sc_law_num : FnScope ["_law_kind", "_law_d"] ["_law_kind", "_law_d"] (defScope s_law_num) := ⟨rfl, rfl, rfl, by decide +kernel, rfl, by decide +kernel, by decide +kernel⟩
abbrev s_law_is_cut : Stmt := topS 41
abbrev N_law_is_cut : List Str := ["_law_lots", "_law_mask", "_law_mark", "_law_deed", "_law_signs"]
theorem sc_law_is_cut : FnScope ["_law_lots", "_law_mask", "_law_mark", "_law_deed", "_law_signs"] ["_law_lots", "_law_mask", "_law_mark"] (defScope s_law_is_cut) := ⟨rfl, rfl, rfl, by decide +kernel, rfl, by decide +kernel, by decide +kernel⟩
abbrev s_law_seen : Stmt := topS 42
abbrev N_law_seen : List Str := ["_law_world", "_law_lots", "_law_mask", "_law_row", "_law_seen_here", "_law_mark"]
theorem sc_law_seen : FnScope ["_law_world", "_law_lots", "_law_mask", "_law_row", "_law_seen_here", "_law_mark"] ["_law_world", "_law_lots", "_law_mask", "_law_row"] (defScope s_law_seen) := ⟨rfl, rfl, rfl, by decide +kernel, rfl, by decide +kernel, by decide +kernel⟩
abbrev s_law_sheet : Stmt := topS 43
abbrev N_law_sheet : List Str := ["_law_box", "_law_many", "_law_kind", "_law_world", "_law_lots", "_law_masks", "_law_d", "_law_deed", "_law_old", "_law_text", "_law_at", "_law_cut", "_law_rim", "_law_ends"]
theorem sc_law_sheet : FnScope ["_law_box", "_law_many", "_law_kind", "_law_world", "_law_lots", "_law_masks", "_law_d", "_law_deed", "_law_old", "_law_text", "_law_at", "_law_cut", "_law_rim", "_law_ends"] ["_law_box", "_law_many", "_law_kind"] (defScope s_law_sheet) := ⟨rfl, rfl, rfl, by decide +kernel, rfl, by decide +kernel, by decide +kernel⟩
abbrev s_law_hinge : Stmt := topS 44
abbrev N_law_hinge : List Str := ["_law_box", "_law_many", "_law_kind", "_law_first", "_law_world", "_law_ends", "_law_third"]
theorem sc_law_hinge : FnScope ["_law_box", "_law_many", "_law_kind", "_law_first", "_law_world", "_law_ends", "_law_third"] ["_law_box", "_law_many", "_law_kind"] (defScope s_law_hinge) := ⟨rfl, rfl, rfl, by decide +kernel, rfl, by decide +kernel, by decide +kernel⟩
abbrev s_law_handed : Stmt := topS 45
abbrev N_law_handed : List Str := ["_law_box", "_law_many", "_law_kind", "_law_world", "_law_mode", "_law_c", "_law_marks", "_law_a", "_law_b", "_law_who", "_law_lots", "_law_d", "_law_signs", "_law_masks", "_law_turn", "_law_mask", "_law_mark"]
theorem sc_law_handed : FnScope ["_law_box", "_law_many", "_law_kind", "_law_world", "_law_mode", "_law_c", "_law_marks", "_law_a", "_law_b", "_law_who", "_law_lots", "_law_d", "_law_signs", "_law_masks", "_law_turn", "_law_mask", "_law_mark"] ["_law_box", "_law_many", "_law_kind"] (defScope s_law_handed) := ⟨rfl, rfl, rfl, by decide +kernel, rfl, by decide +kernel, by decide +kernel⟩
abbrev s_law_cuts : Stmt := topS 46
abbrev N_law_cuts : List Str := ["_law_world", "_law_lots", "_law_gone", "_law_deed", "_law_signs", "_law_rows", "_law_c", "_law_i", "_law_mark"]
theorem sc_law_cuts : FnScope ["_law_world", "_law_lots", "_law_gone", "_law_deed", "_law_signs", "_law_rows", "_law_c", "_law_i", "_law_mark"] ["_law_world", "_law_lots"] (defScope s_law_cuts) := ⟨rfl, rfl, rfl, by decide +kernel, rfl, by decide +kernel, by decide +kernel⟩
abbrev s_law_told : Stmt := topS 47
abbrev N_law_told : List Str := ["_law_table", "_law_a", "_law_b"]
theorem sc_law_told : FnScope ["_law_table", "_law_a", "_law_b"] ["_law_table", "_law_a", "_law_b"] (defScope s_law_told) := ⟨rfl, rfl, rfl, by decide +kernel, rfl, by decide +kernel, by decide +kernel⟩
abbrev s_law_settled : Stmt := topS 48
abbrev N_law_settled : List Str := ["_law_table", "_law_spots", "_law_k", "_law_m"]
theorem sc_law_settled : FnScope ["_law_table", "_law_spots", "_law_k", "_law_m"] ["_law_table", "_law_spots"] (defScope s_law_settled) := ⟨rfl, rfl, rfl, by decide +kernel, rfl, by decide +kernel, by decide +kernel⟩
abbrev s_law_in_order : Stmt := topS 49
abbrev N_law_in_order : List Str := ["_law_marks", "_law_table", "_law_spots", "_law_k", "_law_row", "_law_m"]
theorem sc_law_in_order : FnScope ["_law_marks", "_law_table", "_law_spots", "_law_k", "_law_row", "_law_m"] ["_law_marks", "_law_table", "_law_spots"] (defScope s_law_in_order) := ⟨rfl, rfl, rfl, by decide +kernel, rfl, by decide +kernel, by decide +kernel⟩
abbrev s_law_neighbours : Stmt := topS 50
abbrev N_law_neighbours : List Str := ["_law_marks", "_law_table", "_law_row", "_law_k"]
theorem sc_law_neighbours : FnScope ["_law_marks", "_law_table", "_law_row", "_law_k"] ["_law_marks", "_law_table", "_law_row"] (defScope s_law_neighbours) := ⟨rfl, rfl, rfl, by decide +kernel, rfl, by decide +kernel, by decide +kernel⟩
abbrev s_law_heard : Stmt := topS 51
abbrev N_law_heard : List Str := ["_law_letters", "_law_world", "_law_gone", "_law_mask", "e"]
theorem sc_law_heard : FnScope ["_law_letters", "_law_world", "_law_gone", "_law_mask", "e"] ["_law_letters", "_law_world", "_law_gone", "_law_mask"] (defScope s_law_heard) := ⟨rfl, rfl, rfl, by decide +kernel, rfl, by decide +kernel, by decide +kernel⟩
abbrev s_law_due : Stmt := topS 52
abbrev N_law_due : List Str := ["_law_world", "_law_lots", "_law_marks", "_law_table", "_law_mask", "_law_seen_here", "_law_spots", "_law_pair_here", "_law_row", "_law_mark"]
theorem sc_law_due : FnScope ["_law_world", "_law_lots", "_law_marks", "_law_table", "_law_mask", "_law_seen_here", "_law_spots", "_law_pair_here", "_law_row", "_law_mark"] ["_law_world", "_law_lots", "_law_marks", "_law_table", "_law_mask"] (defScope s_law_due) := ⟨rfl, rfl, rfl, by decide +kernel, rfl, by decide +kernel, by decide +kernel⟩
abbrev s_law_holds : Stmt := topS 53
abbrev N_law_holds : List Str := ["_law_world", "_law_gone", "_law_mask", "_law_due_here", "_law_told_here"]
theorem sc_law_holds : FnScope ["_law_world", "_law_gone", "_law_mask", "_law_due_here", "_law_told_here"] ["_law_world", "_law_gone", "_law_mask", "_law_due_here"] (defScope s_law_holds) := ⟨rfl, rfl, rfl, by decide +kernel, rfl, by decide +kernel, by decide +kernel⟩
abbrev s_law_keepers : Stmt := topS 54
abbrev N_law_keepers : List Str := ["_law_world", "_law_lots", "_law_marks", "_law_table", "_law_mask", "_law_laid_here", "_law_due_here", "_law_gone", "_law_keeper", "_law_seen_here", "_law_pair_here"]
theorem sc_law_keepers : FnScope ["_law_world", "_law_lots", "_law_marks", "_law_table", "_law_mask", "_law_laid_here", "_law_due_here", "_law_gone", "_law_keeper", "_law_seen_here", "_law_pair_here"] ["_law_world", "_law_lots", "_law_marks", "_law_table", "_law_mask", "_law_laid_here", "_law_due_here"] (defScope s_law_keepers) := ⟨rfl, rfl, rfl, by decide +kernel, rfl, by decide +kernel, by decide +kernel⟩
abbrev s_law_choices : Stmt := topS 55
abbrev N_law_choices : List Str := ["_law_box", "_law_many", "_law_k"]
theorem sc_law_choices : FnScope ["_law_box", "_law_many", "_law_k"] ["_law_box", "_law_many"] (defScope s_law_choices) := ⟨rfl, rfl, rfl, by decide +kernel, rfl, by decide +kernel, by decide +kernel⟩
abbrev s_law_stands : Stmt := topS 56
abbrev N_law_stands : List Str := ["_law_many", "_law_kind", "_law_masks", "_law_bits", "_law_mask", "_law_d"]
theorem sc_law_stands : FnScope ["_law_many", "_law_kind", "_law_masks", "_law_bits", "_law_mask", "_law_d"] ["_law_many", "_law_kind"] (defScope s_law_stands) := ⟨rfl, rfl, rfl, by decide +kernel, rfl, by decide +kernel, by decide +kernel⟩
abbrev s_law_chain_holds : Stmt := topS 57
abbrev N_law_chain_holds : List Str := ["_law_box", "_law_world", "_law_row", "_law_c", "_law_text", "_law_m", "_law_flat", "_law_pair_here", "_law_birth"]
theorem sc_law_chain_holds : FnScope ["_law_box", "_law_world", "_law_row", "_law_c", "_law_text", "_law_m", "_law_flat", "_law_pair_here", "_law_birth"] ["_law_box"] (defScope s_law_chain_holds) := ⟨rfl, rfl, rfl, by decide +kernel, rfl, by decide +kernel, by decide +kernel⟩
abbrev s_law : Stmt := topS 58
abbrev N_law : List Str := ["_law_script", "_law_box", "_law_many", "_law_kind", "_law_world", "_law_lots", "_law_masks", "_law_marks", "_law_table", "_law_gone", "_law_laid_here", "_law_turn", "_law_choices_here", "_law_a", "_law_b", "_law_wider", "_law_extra", "_law_mask", "_law_due_here", "_law_i"]
theorem sc_law : FnScope ["_law_script", "_law_box", "_law_many", "_law_kind", "_law_world", "_law_lots", "_law_masks", "_law_marks", "_law_table", "_law_gone", "_law_laid_here", "_law_turn", "_law_choices_here", "_law_a", "_law_b", "_law_wider", "_law_extra", "_law_mask", "_law_due_here", "_law_i"] ["_law_script"] (defScope s_law) := ⟨rfl, rfl, rfl, by decide +kernel, rfl, by decide +kernel, by decide +kernel⟩
abbrev s_init_Unsettled : Stmt := inClass (topS 3) 0
theorem sc_init_Unsettled : FnScope ["self", "one", "other"] ["self", "one", "other"] (defScope s_init_Unsettled) := ⟨rfl, rfl, rfl, by decide +kernel, rfl, by decide +kernel, by decide +kernel⟩
structure Txt (K : PySem.W.Frag) (mg : Str → Option Value) where
  a_hops_of : Addr
  d_hops_of : FuncData
  F_hops_of : Fun K "hops_of" "hops_of" s_hops_of a_hops_of d_hops_of
  b_hops_of : Binds K d_hops_of ["births", "one", "other"] []
  g_hops_of : mg "hops_of" = some (.ref a_hops_of)
  a_told_ahead : Addr
  d_told_ahead : FuncData
  F_told_ahead : Fun K "told_ahead" "told_ahead" s_told_ahead a_told_ahead d_told_ahead
  b_told_ahead : Binds K d_told_ahead ["births", "one", "other"] []
  g_told_ahead : mg "told_ahead" = some (.ref a_told_ahead)
  a_at_or_ahead : Addr
  d_at_or_ahead : FuncData
  F_at_or_ahead : Fun K "at_or_ahead" "at_or_ahead" s_at_or_ahead a_at_or_ahead d_at_or_ahead
  b_at_or_ahead : Binds K d_at_or_ahead ["births", "one", "other"] []
  g_at_or_ahead : mg "at_or_ahead" = some (.ref a_at_or_ahead)
  a_letter_of : Addr
  d_letter_of : FuncData
  F_letter_of : Fun K "letter_of" "letter_of" s_letter_of a_letter_of d_letter_of
  b_letter_of : Binds K d_letter_of ["births", "sign"] []
  g_letter_of : mg "letter_of" = some (.ref a_letter_of)
  a_chunk_size : Addr
  d_chunk_size : FuncData
  F_chunk_size : Fun K "chunk_size" "chunk_size" s_chunk_size a_chunk_size d_chunk_size
  b_chunk_size : Binds K d_chunk_size ["births", "chunk"] []
  g_chunk_size : mg "chunk_size" = some (.ref a_chunk_size)
  a_has_deed : Addr
  d_has_deed : FuncData
  F_has_deed : Fun K "has_deed" "has_deed" s_has_deed a_has_deed d_has_deed
  b_has_deed : Binds K d_has_deed ["stand", "deed"] []
  g_has_deed : mg "has_deed" = some (.ref a_has_deed)
  a_choice_for : Addr
  d_choice_for : FuncData
  F_choice_for : Fun K "choice_for" "choice_for" s_choice_for a_choice_for d_choice_for
  b_choice_for : Binds K d_choice_for ["choices", "chunk"] []
  g_choice_for : mg "choice_for" = some (.ref a_choice_for)
  a_laid_out : Addr
  d_laid_out : FuncData
  F_laid_out : Fun K "laid_out" "laid_out" s_laid_out a_laid_out d_laid_out
  b_laid_out : Binds K d_laid_out ["births", "choices"] []
  g_laid_out : mg "laid_out" = some (.ref a_laid_out)
  a_own_keeper : Addr
  d_own_keeper : FuncData
  F_own_keeper : Fun K "own_keeper" "own_keeper" s_own_keeper a_own_keeper d_own_keeper
  b_own_keeper : Binds K d_own_keeper ["births"] []
  g_own_keeper : mg "own_keeper" = some (.ref a_own_keeper)
  a_cut_away : Addr
  d_cut_away : FuncData
  F_cut_away : Fun K "cut_away" "cut_away" s_cut_away a_cut_away d_cut_away
  b_cut_away : Binds K d_cut_away ["cuts", "stand"] []
  g_cut_away : mg "cut_away" = some (.ref a_cut_away)
  a_shown_by : Addr
  d_shown_by : FuncData
  F_shown_by : Fun K "shown_by" "shown_by" s_shown_by a_shown_by d_shown_by
  b_shown_by : Binds K d_shown_by ["births", "cuts", "keeper", "stand"] []
  g_shown_by : mg "shown_by" = some (.ref a_shown_by)
  a_letters_of : Addr
  d_letters_of : FuncData
  F_letters_of : Fun K "letters_of" "letters_of" s_letters_of a_letters_of d_letters_of
  b_letters_of : Binds K d_letters_of ["births", "signs"] []
  g_letters_of : mg "letters_of" = some (.ref a_letters_of)
  a_first_untold : Addr
  d_first_untold : FuncData
  F_first_untold : Fun K "first_untold" "first_untold" s_first_untold a_first_untold d_first_untold
  b_first_untold : Binds K d_first_untold ["births", "row"] []
  g_first_untold : mg "first_untold" = some (.ref a_first_untold)
  a_shown_signs : Addr
  d_shown_signs : FuncData
  F_shown_signs : Fun K "shown_signs" "shown_signs" s_shown_signs a_shown_signs d_shown_signs
  b_shown_signs : Binds K d_shown_signs ["births", "cuts", "stand"] []
  g_shown_signs : mg "shown_signs" = some (.ref a_shown_signs)
  a_is_settled : Addr
  d_is_settled : FuncData
  F_is_settled : Fun K "is_settled" "is_settled" s_is_settled a_is_settled d_is_settled
  b_is_settled : Binds K d_is_settled ["births", "cuts", "stand"] []
  g_is_settled : mg "is_settled" = some (.ref a_is_settled)
  a_row_of : Addr
  d_row_of : FuncData
  F_row_of : Fun K "row_of" "row_of" s_row_of a_row_of d_row_of
  b_row_of : Binds K d_row_of ["births", "cuts", "stand"] []
  g_row_of : mg "row_of" = some (.ref a_row_of)
  a_text_of : Addr
  d_text_of : FuncData
  F_text_of : Fun K "text_of" "text_of" s_text_of a_text_of d_text_of
  b_text_of : Binds K d_text_of ["births", "cuts", "stand"] []
  g_text_of : mg "text_of" = some (.ref a_text_of)
  a_law_draws : Addr
  d_law_draws : FuncData
  F_law_draws : Fun K "_law_draws" "_law_draws" s_law_draws a_law_draws d_law_draws
  b_law_draws : Binds K d_law_draws ["_law_script"] []
  g_law_draws : mg "_law_draws" = some (.ref a_law_draws)
  a_law_pick : Addr
  d_law_pick : FuncData
  F_law_pick : Fun K "_law_pick" "_law_pick" s_law_pick a_law_pick d_law_pick
  b_law_pick : Binds K d_law_pick ["_law_box", "_law_many"] []
  g_law_pick : mg "_law_pick" = some (.ref a_law_pick)
  a_law_say : Addr
  d_law_say : FuncData
  F_law_say : Fun K "_law_say" "_law_say" s_law_say a_law_say d_law_say
  b_law_say : Binds K d_law_say ["_law_box", "_law_most"] []
  g_law_say : mg "_law_say" = some (.ref a_law_say)
  a_law_all : Addr
  d_law_all : FuncData
  F_law_all : Fun K "_law_all" "_law_all" s_law_all a_law_all d_law_all
  b_law_all : Binds K d_law_all ["_law_world"] []
  g_law_all : mg "_law_all" = some (.ref a_law_all)
  a_law_closed : Addr
  d_law_closed : FuncData
  F_law_closed : Fun K "_law_closed" "_law_closed" s_law_closed a_law_closed d_law_closed
  b_law_closed : Binds K d_law_closed ["_law_world"] []
  g_law_closed : mg "_law_closed" = some (.ref a_law_closed)
  a_law_behind : Addr
  d_law_behind : FuncData
  F_law_behind : Fun K "_law_behind" "_law_behind" s_law_behind a_law_behind d_law_behind
  b_law_behind : Binds K d_law_behind ["_law_table", "_law_j"] []
  g_law_behind : mg "_law_behind" = some (.ref a_law_behind)
  a_law_ahead : Addr
  d_law_ahead : FuncData
  F_law_ahead : Fun K "_law_ahead" "_law_ahead" s_law_ahead a_law_ahead d_law_ahead
  b_law_ahead : Binds K d_law_ahead ["_law_table", "_law_j"] []
  g_law_ahead : mg "_law_ahead" = some (.ref a_law_ahead)
  a_law_close : Addr
  d_law_close : FuncData
  F_law_close : Fun K "_law_close" "_law_close" s_law_close a_law_close d_law_close
  b_law_close : Binds K d_law_close ["_law_table", "_law_j"] []
  g_law_close : mg "_law_close" = some (.ref a_law_close)
  a_law_pair : Addr
  d_law_pair : FuncData
  F_law_pair : Fun K "_law_pair" "_law_pair" s_law_pair a_law_pair d_law_pair
  b_law_pair : Binds K d_law_pair ["_law_box", "_law_table", "_law_mode"] []
  g_law_pair : mg "_law_pair" = some (.ref a_law_pair)
  a_law_same : Addr
  d_law_same : FuncData
  F_law_same : Fun K "_law_same" "_law_same" s_law_same a_law_same d_law_same
  b_law_same : Binds K d_law_same ["_law_a", "_law_b"] []
  g_law_same : mg "_law_same" = some (.ref a_law_same)
  a_law_laid : Addr
  d_law_laid : FuncData
  F_law_laid : Fun K "_law_laid" "_law_laid" s_law_laid a_law_laid d_law_laid
  b_law_laid : Binds K d_law_laid ["_law_world", "_law_choices_here"] []
  g_law_laid : mg "_law_laid" = some (.ref a_law_laid)
  a_law_num : Addr
  d_law_num : FuncData
  F_law_num : Fun K "_law_num" "_law_num" s_law_num a_law_num d_law_num
  b_law_num : Binds K d_law_num ["_law_kind", "_law_d"] []
  g_law_num : mg "_law_num" = some (.ref a_law_num)
  a_law_is_cut : Addr
  d_law_is_cut : FuncData
  F_law_is_cut : Fun K "_law_is_cut" "_law_is_cut" s_law_is_cut a_law_is_cut d_law_is_cut
  b_law_is_cut : Binds K d_law_is_cut ["_law_lots", "_law_mask", "_law_mark"] []
  g_law_is_cut : mg "_law_is_cut" = some (.ref a_law_is_cut)
  a_law_seen : Addr
  d_law_seen : FuncData
  F_law_seen : Fun K "_law_seen" "_law_seen" s_law_seen a_law_seen d_law_seen
  b_law_seen : Binds K d_law_seen ["_law_world", "_law_lots", "_law_mask", "_law_row"] []
  g_law_seen : mg "_law_seen" = some (.ref a_law_seen)
  a_law_sheet : Addr
  d_law_sheet : FuncData
  F_law_sheet : Fun K "_law_sheet" "_law_sheet" s_law_sheet a_law_sheet d_law_sheet
  b_law_sheet : Binds K d_law_sheet ["_law_box", "_law_many", "_law_kind"] []
  g_law_sheet : mg "_law_sheet" = some (.ref a_law_sheet)
  a_law_hinge : Addr
  d_law_hinge : FuncData
  F_law_hinge : Fun K "_law_hinge" "_law_hinge" s_law_hinge a_law_hinge d_law_hinge
  b_law_hinge : Binds K d_law_hinge ["_law_box", "_law_many", "_law_kind"] []
  g_law_hinge : mg "_law_hinge" = some (.ref a_law_hinge)
  a_law_handed : Addr
  d_law_handed : FuncData
  F_law_handed : Fun K "_law_handed" "_law_handed" s_law_handed a_law_handed d_law_handed
  b_law_handed : Binds K d_law_handed ["_law_box", "_law_many", "_law_kind"] []
  g_law_handed : mg "_law_handed" = some (.ref a_law_handed)
  a_law_cuts : Addr
  d_law_cuts : FuncData
  F_law_cuts : Fun K "_law_cuts" "_law_cuts" s_law_cuts a_law_cuts d_law_cuts
  b_law_cuts : Binds K d_law_cuts ["_law_world", "_law_lots"] []
  g_law_cuts : mg "_law_cuts" = some (.ref a_law_cuts)
  a_law_told : Addr
  d_law_told : FuncData
  F_law_told : Fun K "_law_told" "_law_told" s_law_told a_law_told d_law_told
  b_law_told : Binds K d_law_told ["_law_table", "_law_a", "_law_b"] []
  g_law_told : mg "_law_told" = some (.ref a_law_told)
  a_law_settled : Addr
  d_law_settled : FuncData
  F_law_settled : Fun K "_law_settled" "_law_settled" s_law_settled a_law_settled d_law_settled
  b_law_settled : Binds K d_law_settled ["_law_table", "_law_spots"] []
  g_law_settled : mg "_law_settled" = some (.ref a_law_settled)
  a_law_in_order : Addr
  d_law_in_order : FuncData
  F_law_in_order : Fun K "_law_in_order" "_law_in_order" s_law_in_order a_law_in_order d_law_in_order
  b_law_in_order : Binds K d_law_in_order ["_law_marks", "_law_table", "_law_spots"] []
  g_law_in_order : mg "_law_in_order" = some (.ref a_law_in_order)
  a_law_neighbours : Addr
  d_law_neighbours : FuncData
  F_law_neighbours : Fun K "_law_neighbours" "_law_neighbours" s_law_neighbours a_law_neighbours d_law_neighbours
  b_law_neighbours : Binds K d_law_neighbours ["_law_marks", "_law_table", "_law_row"] []
  g_law_neighbours : mg "_law_neighbours" = some (.ref a_law_neighbours)
  a_law_heard : Addr
  d_law_heard : FuncData
  F_law_heard : Fun K "_law_heard" "_law_heard" s_law_heard a_law_heard d_law_heard
  b_law_heard : Binds K d_law_heard ["_law_letters", "_law_world", "_law_gone", "_law_mask"] []
  g_law_heard : mg "_law_heard" = some (.ref a_law_heard)
  a_law_due : Addr
  d_law_due : FuncData
  F_law_due : Fun K "_law_due" "_law_due" s_law_due a_law_due d_law_due
  b_law_due : Binds K d_law_due ["_law_world", "_law_lots", "_law_marks", "_law_table", "_law_mask"] []
  g_law_due : mg "_law_due" = some (.ref a_law_due)
  a_law_holds : Addr
  d_law_holds : FuncData
  F_law_holds : Fun K "_law_holds" "_law_holds" s_law_holds a_law_holds d_law_holds
  b_law_holds : Binds K d_law_holds ["_law_world", "_law_gone", "_law_mask", "_law_due_here"] []
  g_law_holds : mg "_law_holds" = some (.ref a_law_holds)
  a_law_keepers : Addr
  d_law_keepers : FuncData
  F_law_keepers : Fun K "_law_keepers" "_law_keepers" s_law_keepers a_law_keepers d_law_keepers
  b_law_keepers : Binds K d_law_keepers ["_law_world", "_law_lots", "_law_marks", "_law_table", "_law_mask", "_law_laid_here", "_law_due_here"] []
  g_law_keepers : mg "_law_keepers" = some (.ref a_law_keepers)
  a_law_choices : Addr
  d_law_choices : FuncData
  F_law_choices : Fun K "_law_choices" "_law_choices" s_law_choices a_law_choices d_law_choices
  b_law_choices : Binds K d_law_choices ["_law_box", "_law_many"] []
  g_law_choices : mg "_law_choices" = some (.ref a_law_choices)
  a_law_stands : Addr
  d_law_stands : FuncData
  F_law_stands : Fun K "_law_stands" "_law_stands" s_law_stands a_law_stands d_law_stands
  b_law_stands : Binds K d_law_stands ["_law_many", "_law_kind"] []
  g_law_stands : mg "_law_stands" = some (.ref a_law_stands)
  a_law_chain_holds : Addr
  d_law_chain_holds : FuncData
  F_law_chain_holds : Fun K "_law_chain_holds" "_law_chain_holds" s_law_chain_holds a_law_chain_holds d_law_chain_holds
  b_law_chain_holds : Binds K d_law_chain_holds ["_law_box"] []
  g_law_chain_holds : mg "_law_chain_holds" = some (.ref a_law_chain_holds)
  a_law : Addr
  d_law : FuncData
  F_law : Fun K "law" "law" s_law a_law d_law
  b_law : Binds K d_law ["_law_script"] []
  g_law : mg "law" = some (.ref a_law)
  kb_is_settled : KBinds K d_is_settled ["births", "cuts", "stand"] ["stand", "cuts", "births"] p210 p210
  kb_row_of : KBinds K d_row_of ["births", "cuts", "stand"] ["stand", "cuts", "births"] p210 p210
  c_Unsettled : Addr
  ai_Unsettled : Addr
  d_Unsettled : FuncData
  F_Unsettled : Fun K "__init__" "Unsettled.__init__" s_init_Unsettled ai_Unsettled d_Unsettled
  b_Unsettled : Binds K d_Unsettled ["self", "one", "other"] []
  g_Unsettled : mg "Unsettled" = some (.ref c_Unsettled)
  o_Unsettled : OexC K c_Unsettled
  x_Unsettled : XfC K c_Unsettled
  i_Unsettled : PySem.W.findIn K (.ref c_Unsettled) "__init__" = some (some (.ref ai_Unsettled))
  ti_Unsettled : PySem.W.typeIn K (.ref ai_Unsettled) = some (.type "function")
  e_Unsettled : PySem.W.exmOne K (.ref c_Unsettled) (.ref c_Unsettled) = some true
  na_Unsettled_one : PySem.W.findIn K (.ref c_Unsettled) "one" = some none
  na_Unsettled_other : PySem.W.findIn K (.ref c_Unsettled) "other" = some none
  c_DeskError : Addr
  g_DeskError : mg "DeskError" = some (.ref c_DeskError)
  e_Unsettled_DeskError : PySem.W.exmOne K (.ref c_Unsettled) (.ref c_DeskError) = some true
  q_Unsettled : ExcC K c_Unsettled
  a_HEAD : Addr
  u_HEAD : KT K a_HEAD [.int 0, .int 0]
  g_HEAD : mg "HEAD" = some (.ref a_HEAD)
  a_END : Addr
  u_END : KT K a_END [.int 0, .int 1]
  g_END : mg "END" = some (.ref a_END)
  n_abs : mg "abs" = none
  n_bool : mg "bool" = none
  n_dict : mg "dict" = none
  n_int : mg "int" = none
  n_isinstance : mg "isinstance" = none
  n_len : mg "len" = none
  n_list : mg "list" = none
  n_min : mg "min" = none
  n_range : mg "range" = none
  n_str : mg "str" = none
  n_tuple : mg "tuple" = none
  n_zip : mg "zip" = none
end K23

namespace Tl
section
variable {L R : Nat → Sg} {sz : Nat → Nat} {n : Nat} {x y : Sg}
theorem ps_of_mark {j : Nat} (h : (marks sz n)[j]? = some x) : ps sz x = j := by
  have hj := (List.getElem?_eq_some_iff.mp h).1
  rw [marks_len] at hj
  obtain ⟨y, oy, e⟩ := sign_at hj
  have z := marks_at oy
  rw [e, h] at z
  rw [Option.some.inj z]
  exact e
theorem mark_first (o : Ok sz n x) : (marks sz n)[ps sz x]? = some x ∧ ∀ i, i < ps sz x → (marks sz n)[i]? ≠ some x :=
  ⟨marks_at o, fun i hi e => by
    have z := ps_of_mark e
    omega⟩
theorem off_le (h0 : sz 0 ≤ 2) (h : ∀ c, 0 < c → c < n → sz c ≤ 3) : ∀ m, m ≤ n → off sz m ≤ 3 * m
  | 0, _ => Nat.le_refl _
  | m + 1, hm => by
    have z := off_le h0 h m (by omega)
    show off sz m + sz m ≤ _
    by_cases e : m = 0
    · subst e
      omega
    · have := h m (by omega) (by omega)
      omega
theorem Ok.mono {m : Nat} (o : Ok sz n x) (h : n ≤ m) : Ok sz m x := ⟨Nat.lt_of_lt_of_le o.1 h, o.2⟩
theorem marks_one (h : sz 0 = 2) : marks sz 1 = [(0, 0), (0, 1)] := by
  show [] ++ rowOf sz 0 = _
  unfold rowOf
  rw [h]
  rfl
theorem bit_same {T : List Nat} {e : Nat × Nat} (h : put T e = T) (hl : e.1 < T.length) : ∀ c, c = e.2 ∨ Bit T e.2 c → Bit T e.1 c := fun c hc => by
  have z := (bit_put (T := T) hl (a := e.1) (b := c)).mpr (.inr ⟨rfl, hc⟩)
  rw [h] at z
  exact z
theorem put_eq {T : List Nat} {e : Nat × Nat} (hl : e.1 < T.length) (h : T.getD e.1 0 ||| 1 <<< e.2 ||| T.getD e.2 0 = T.getD e.1 0) : put T e = T := by
  unfold put
  rw [h]
  refine List.ext_getElem? fun i => ?_
  rw [List.getElem?_set]
  split
  · rename_i hi
    subst hi
    rw [List.getD_eq_getElem?_getD, List.getElem?_eq_getElem hl]
    rfl
  · rfl
theorem lap_snoc {S : List (Nat × Nat)} {T : List Nat} {e : Nat × Nat} : lap (S ++ [e]) T = put (lap S T) e := by
  unfold lap
  rw [List.foldl_append]
  rfl
/-! ### what is behind, what is ahead -/
def bh (T : List Nat) (j : Nat) : List Nat := (List.range T.length).filter fun k => (T.getD j 0).testBit k
def ah (T : List Nat) (j : Nat) : List Nat := (List.range T.length).filter fun k => (T.getD k 0).testBit j
def cl (T : List Nat) (j : Nat) : List Nat := (bh T j).filter fun k => ((bh T j).filter fun m => (T.getD m 0).testBit k).isEmpty
theorem mem_bh {T : List Nat} {j k : Nat} : k ∈ bh T j ↔ k < T.length ∧ Bit T j k := by
  unfold bh Bit
  rw [List.mem_filter, List.mem_range]
theorem mem_ah {T : List Nat} {j k : Nat} : k ∈ ah T j ↔ k < T.length ∧ Bit T k j := by
  unfold ah Bit
  rw [List.mem_filter, List.mem_range]
theorem cl_sub {T : List Nat} {j k : Nat} (h : k ∈ cl T j) : k ∈ bh T j := (List.mem_filter.mp h).1
/-- a row with a strict order has a least one -/
theorem least {lt : Nat → Nat → Prop} : ∀ (l : List Nat), l ≠ [] → (∀ a ∈ l, ∀ b ∈ l, ∀ c ∈ l, lt a b → lt b c → lt a c) → (∀ a ∈ l, ¬ lt a a) → ∃ k ∈ l, ∀ m ∈ l, ¬ lt m k := by
  intro l
  induction l with
  | nil => intro h; exact absurd rfl h
  | cons x r ih =>
    intro _ tr ir
    by_cases hr : r = []
    · subst hr
      refine ⟨x, List.mem_cons_self .., fun m hm => ?_⟩
      rw [List.mem_singleton.mp hm]
      exact ir x (List.mem_cons_self ..)
    · obtain ⟨k, hk, hm⟩ := ih hr (fun a ha b hb c hc => tr a (List.mem_cons_of_mem _ ha) b (List.mem_cons_of_mem _ hb) c (List.mem_cons_of_mem _ hc)) (fun a ha => ir a (List.mem_cons_of_mem _ ha))
      have hk' := List.mem_cons_of_mem x hk
      by_cases hx : lt x k
      · refine ⟨x, List.mem_cons_self .., fun m hm' hl => ?_⟩
        rcases List.mem_cons.mp hm' with rfl | hm2
        · exact ir _ (List.mem_cons_self ..) hl
        · exact hm m hm2 (tr m hm' x (List.mem_cons_self ..) k hk' hl hx)
      · refine ⟨k, hk', fun m hm' hl => ?_⟩
        rcases List.mem_cons.mp hm' with rfl | hm2
        · exact hx hl
        · exact hm m hm2 hl
theorem Tells.bit_lt {T : List Nat} (t : Tells L R sz n T) {a b : Nat} (ha : a < T.length) (hb : b < T.length) : ∃ x y, Ok sz n x ∧ Ok sz n y ∧ ps sz x = a ∧ ps sz y = b ∧ (Bit T a b ↔ A L R x y) := by
  rw [t.1] at ha hb
  obtain ⟨x, hx, rfl⟩ := sign_at ha
  obtain ⟨y, hy, rfl⟩ := sign_at hb
  exact ⟨x, y, hx, hy, rfl, rfl, t.2 x y hx hy⟩
theorem Tells.cl_ne {T : List Nat} (w : Wv L R sz n) (t : Tells L R sz n T) {j : Nat} (hj : j < T.length) (h : bh T j ≠ []) : cl T j ≠ [] := by
  obtain ⟨k, hk, hm⟩ := least (lt := fun a b => Bit T a b) (bh T j) h (fun a ha b hb c hc h1 h2 => by
    obtain ⟨x, y, ox, oy, ex, ey, i1⟩ := t.bit_lt (mem_bh.mp ha).1 (mem_bh.mp hb).1
    obtain ⟨y', z, oy', oz, ey', ez, i2⟩ := t.bit_lt (mem_bh.mp hb).1 (mem_bh.mp hc).1
    have e := ps_inj oy' oy (ey'.trans ey.symm)
    subst e
    have a3 := w.tr ox.1 oy.1 oz.1 (i1.mp h1) (i2.mp h2)
    have z := (t.2 x z ox oz).mpr a3
    rw [ex, ez] at z
    exact z) (fun a ha h1 => by
    obtain ⟨x, y, ox, oy, ex, ey, i1⟩ := t.bit_lt (mem_bh.mp ha).1 (mem_bh.mp ha).1
    have e := ps_inj ox oy (ex.trans ey.symm)
    subst e
    exact A.irr (i1.mp h1))
  refine List.ne_nil_of_mem (a := k) (List.mem_filter.mpr ⟨hk, ?_⟩)
  rw [List.isEmpty_iff, List.filter_eq_nil_iff]
  exact fun m hm' hb => hm m hm' hb
theorem Tells.bh0 {T : List Nat} (w : Wv L R sz n) (t : Tells L R sz n T) : bh T 0 ≠ [] ∧ 1 < T.length := by
  have n0 := w.n0
  have o0 : Ok sz n (0, 0) := ⟨n0, by show 0 < sz 0; rw [w.s0]; decide⟩
  have o1 : Ok sz n (0, 1) := ⟨n0, by show 1 < sz 0; rw [w.s0]; decide⟩
  have h1 := ps_lt o1
  have e1 : ps sz (0, 1) = 1 := rfl
  rw [e1, ← t.1] at h1
  have b : Bit T 0 1 := (t.2 (0, 0) (0, 1) o0 o1).mpr (.same rfl (by decide))
  exact ⟨List.ne_nil_of_mem (a := 1) (mem_bh.mpr ⟨h1, b⟩), h1⟩
end
end Tl
namespace Tl
theorem steps_le {L R : Nat → Sg} {sz : Nat → Nat} {n : Nat} (w : Wv L R sz n) : ∀ m, m < n → (steps L R sz m).length ≤ off sz (m + 1) + m
  | 0, _ => by
    show 1 ≤ (off sz 0 + sz 0) + 0
    rw [w.s0]
    show 1 ≤ 0 + 2 + 0
    omega
  | m + 1, h => by
    have z := steps_le w m (by omega)
    have s := w.s1 (m + 1) (by omega) h
    show (steps L R sz m ++ stepsOf L R sz (m + 1)).length ≤ (off sz (m + 1) + sz (m + 1)) + (m + 1)
    rw [List.length_append]
    have e : (stepsOf L R sz (m + 1)).length = sz (m + 1) - 1 + 2 := by
      unfold stepsOf
      simp
    rw [e]
    omega
end Tl

namespace Tl
def upn {α : Type} (f : Nat → α) (n : Nat) (x : α) : Nat → α := fun k => if k = n then x else f k
theorem upd_at {α : Type} {f : Nat → α} {n : Nat} {x : α} : upn f n x n = x := if_pos rfl
theorem upn_ne {α : Type} {f : Nat → α} {n k : Nat} {x : α} (h : k < n) : upn f n x k = f k := if_neg (by omega)
section
variable {L R : Nat → Sg} {sz : Nat → Nat} {n s : Nat} {x y : Sg}
theorem Wv.congrUp (w : Wv L R sz n) {u v : Sg} (hu : u.1 < n) (hv : v.1 < n) (a : A L R u v) : A (upn L n x) (upn R n y) u v :=
  A.congr (n := n) (fun c _ h => (upn_ne h).symm) (fun c _ h => (upn_ne h).symm) (fun c h0 h => ⟨w.l c h0 h, w.r c h0 h⟩) a hu hv
theorem Wv.step (w : Wv L R sz n) (ox : Ok sz n x) (oy : Ok sz n y) (a : A L R x y) (s0 : 0 < s) : Wv (upn L n x) (upn R n y) (upn sz n s) (n + 1) := by
  have n0 := w.n0
  have cs : ∀ c, c < n + 1 → c < n ∨ c = n := fun c h => by omega
  refine { l := fun c h0 h => ?_, r := fun c h0 h => ?_, lr := fun c h0 h => ?_, n0 := by omega, s0 := ?_, s1 := fun c h0 h => ?_, lo := fun c h0 h => ?_, ro := fun c h0 h => ?_ }
  · rcases cs c h with h | rfl
    · rw [upn_ne h]; exact w.l c h0 h
    · rw [upd_at]; exact ox.1
  · rcases cs c h with h | rfl
    · rw [upn_ne h]; exact w.r c h0 h
    · rw [upd_at]; exact oy.1
  · rcases cs c h with h | rfl
    · rw [upn_ne h, upn_ne h]
      exact w.congrUp (Nat.lt_trans (w.l c h0 h) h) (Nat.lt_trans (w.r c h0 h) h) (w.lr c h0 h)
    · rw [upd_at, upd_at]
      exact w.congrUp ox.1 oy.1 a
  · rw [upn_ne n0]; exact w.s0
  · rcases cs c h with h | rfl
    · rw [upn_ne h]; exact w.s1 c h0 h
    · rw [upd_at]; exact s0
  · rcases cs c h with h | rfl
    · rw [upn_ne h, upn_ne (Nat.lt_trans (w.l c h0 h) h)]; exact w.lo c h0 h
    · rw [upd_at, upn_ne ox.1]; exact ox.2
  · rcases cs c h with h | rfl
    · rw [upn_ne h, upn_ne (Nat.lt_trans (w.r c h0 h) h)]; exact w.ro c h0 h
    · rw [upd_at, upn_ne oy.1]; exact oy.2
theorem Wv.one : Wv (fun _ => (0, 0)) (fun _ => (0, 1)) (fun _ => 2) 1 :=
  { l := fun c h0 h => by omega, r := fun c h0 h => by omega, lr := fun c h0 h => by omega, n0 := by omega, s0 := rfl, s1 := fun c h0 h => by omega, lo := fun c h0 h => by omega, ro := fun c h0 h => by omega }
end
end Tl

namespace Tl
section
variable {L R : Nat → Sg} {sz : Nat → Nat} {n s : Nat} {x y l r : Sg} {X Y : List Sg}
/-- a row in the order -/
def Srt (L R : Nat → Sg) (row : List Sg) : Prop := row.Pairwise (A L R)
theorem Srt.step (w : Wv L R sz n) (ok : ∀ u ∈ X ++ l :: r :: Y, Ok sz n u) (h : Srt L R (X ++ l :: r :: Y)) : Srt (upn L n l) (upn R n r) (X ++ l :: (n, 0) :: r :: Y) := by
  unfold Srt at *
  have up : ∀ {u v}, u ∈ X ++ l :: r :: Y → v ∈ X ++ l :: r :: Y → A L R u v → A (upn L n l) (upn R n r) u v := fun hu hv a => w.congrUp (ok _ hu).1 (ok _ hv).1 a
  rw [List.pairwise_append] at h ⊢
  obtain ⟨h1, h2, h3⟩ := h
  rw [List.pairwise_cons] at h2
  obtain ⟨h4, h5⟩ := h2
  rw [List.pairwise_cons] at h5
  obtain ⟨h6, h7⟩ := h5
  have mX : ∀ {u}, u ∈ X → u ∈ X ++ l :: r :: Y := fun h => List.mem_append_left _ h
  have mY : ∀ {u}, u ∈ Y → u ∈ X ++ l :: r :: Y := fun h => List.mem_append_right _ (List.mem_cons_of_mem _ (List.mem_cons_of_mem _ h))
  have ml : l ∈ X ++ l :: r :: Y := List.mem_append_right _ (List.mem_cons_self ..)
  have mr : r ∈ X ++ l :: r :: Y := List.mem_append_right _ (List.mem_cons_of_mem _ (List.mem_cons_self ..))
  have lo : ∀ {u}, u ∈ X ++ l :: r :: Y → E (upn L n l) (upn R n r) u l → A (upn L n l) (upn R n r) u (n, 0) := fun hu e => (A.l_iff (ok _ hu).1).mpr (by
    show E _ _ _ (upn L n l n)
    rw [upd_at]
    exact e)
  have hi : ∀ {u}, u ∈ X ++ l :: r :: Y → E (upn L n l) (upn R n r) r u → A (upn L n l) (upn R n r) (n, 0) u := fun hu e => (A.r_iff (ok _ hu).1).mpr (by
    show E _ _ (upn R n r n) _
    rw [upd_at]
    exact e)
  refine ⟨h1.imp_of_mem fun ha hb a => up (mX ha) (mX hb) a, ?_, fun a ha b hb => ?_⟩
  · rw [List.pairwise_cons, List.pairwise_cons, List.pairwise_cons]
    refine ⟨fun a ha => ?_, fun a ha => ?_, fun a ha => up mr (mY ha) (h6 a ha), h7.imp_of_mem fun ha hb a => up (mY ha) (mY hb) a⟩
    · rcases List.mem_cons.mp ha with rfl | ha
      · exact lo ml (.inl rfl)
      · rcases List.mem_cons.mp ha with rfl | ha
        · exact up ml mr (h4 _ (List.mem_cons_self ..))
        · exact up ml (mY ha) (h4 _ (List.mem_cons_of_mem _ ha))
    · rcases List.mem_cons.mp ha with rfl | ha
      · exact hi mr (.inl rfl)
      · exact hi (mY ha) (.inr (up mr (mY ha) (h6 a ha)))
  · rcases List.mem_cons.mp hb with rfl | hb
    · exact up (mX ha) ml (h3 a ha _ (List.mem_cons_self ..))
    · rcases List.mem_cons.mp hb with rfl | hb
      · exact lo (mX ha) (.inr (up (mX ha) ml (h3 a ha _ (List.mem_cons_self ..))))
      · rcases List.mem_cons.mp hb with rfl | hb
        · exact up (mX ha) mr (h3 a ha _ (List.mem_cons_of_mem _ (List.mem_cons_self ..)))
        · exact up (mX ha) (mY hb) (h3 a ha _ (List.mem_cons_of_mem _ (List.mem_cons_of_mem _ hb)))
theorem Srt.lt {row : List Sg} (h : Srt L R row) {i j : Nat} {x y : Sg} (hi : row[i]? = some x) (hj : row[j]? = some y) (hij : i < j) : A L R x y := by
  obtain ⟨h1, rfl⟩ := List.getElem?_eq_some_iff.mp hi
  obtain ⟨h2, rfl⟩ := List.getElem?_eq_some_iff.mp hj
  exact List.pairwise_iff_getElem.mp h i j h1 h2 hij
theorem Srt.iff {row : List Sg} (w : Wv L R sz n) (ok : ∀ u ∈ row, Ok sz n u) (h : Srt L R row) {i j : Nat} {x y : Sg} (hi : row[i]? = some x) (hj : row[j]? = some y) : (A L R x y ↔ i < j) ∧ (E L R x y ↔ i ≤ j) := by
  have ox := ok x (List.mem_of_getElem? hi)
  have oy := ok y (List.mem_of_getElem? hj)
  rcases Nat.lt_trichotomy i j with hij | rfl | hij
  · have a := h.lt hi hj hij
    exact ⟨⟨fun _ => hij, fun _ => a⟩, fun _ => by omega, fun _ => .inr a⟩
  · rw [hi] at hj
    obtain rfl := Option.some.inj hj
    exact ⟨⟨fun a => absurd a A.irr, fun z => by omega⟩, fun _ => by omega, fun _ => .inl rfl⟩
  · have a := h.lt hj hi hij
    have no : ¬ A L R x y := fun b => A.irr (w.tr ox.1 oy.1 ox.1 b a)
    refine ⟨⟨fun b => absurd b no, fun z => by omega⟩, fun e => ?_, fun z => by omega⟩
    rcases e with rfl | e
    · exact absurd a A.irr
    · exact absurd e no
end
end Tl

/-! births as plain data -/
namespace Wd
open PySem PySem.Spec PyProof.Rows L2 Dk Tl
structure Bi where
  who : Nat
  l : Sg
  r : Sg
  t : Str
def BiV (K : PySem.W.Frag) (H : Hp) (v : V) (b : Bi) : Prop := ∃ (q : Addr) (lv rv : V), v = .ref q ∧ Tu K H q [.int (b.who : Nat), lv, rv, .str b.t] ∧ SgV K H lv b.l ∧ SgV K H rv b.r
instance {K : PySem.W.Frag} : Imm (BiV K) := ⟨fun t h => by
  obtain ⟨q, lv, rv, h1, h2, h3, h4⟩ := h
  exact ⟨q, lv, rv, h1, h2.tk t, imm t h3, imm t h4⟩⟩
abbrev WdV (K : PySem.W.Frag) := TupV K (BiV K)
def lf (W : List Bi) (c : Nat) : Sg := match W[c]? with | some b => b.l | none => (0, 0)
def rf (W : List Bi) (c : Nat) : Sg := match W[c]? with | some b => b.r | none => (0, 0)
def sz (W : List Bi) (c : Nat) : Nat := if c = 0 then 2 else match W[c]? with | some b => b.t.length | none => 0
structure Gw (W : List Bi) : Prop where
  wv : Wv (lf W) (rf W) (sz W) W.length
  small : W.length ≤ 210
  tot : off (sz W) W.length ≤ 750
  tl : ∀ b ∈ W, b.t.length ≤ 12
  who : ∀ b ∈ W, b.who < 300
theorem off_upto {f : Nat → Nat} {m : Nat} : ∀ {n : Nat}, m ≤ n → off f m ≤ off f n
  | 0, h => by rw [Nat.le_zero.mp h]; exact Nat.le_refl _
  | n + 1, h => by
    rcases Nat.lt_or_ge m (n + 1) with z | z
    · have := off_upto (f := f) (m := m) (n := n) (by omega)
      show _ ≤ off f n + f n
      omega
    · rw [show m = n + 1 by omega]; exact Nat.le_refl _
abbrev OkW (W : List Bi) (x : Sg) : Prop := Ok (sz W) W.length x
theorem lf_at {W : List Bi} {c : Nat} {b : Bi} (h : W[c]? = some b) : lf W c = b.l := by unfold lf; rw [h]
theorem rf_at {W : List Bi} {c : Nat} {b : Bi} (h : W[c]? = some b) : rf W c = b.r := by unfold rf; rw [h]
theorem sz_at {W : List Bi} {c : Nat} {b : Bi} (h0 : 0 < c) (h : W[c]? = some b) : sz W c = b.t.length := by unfold sz; rw [if_neg (by omega), h]
theorem sz0 {W : List Bi} : sz W 0 = 2 := rfl
theorem OkW.at {W : List Bi} {x : Sg} (ok : OkW W x) : ∃ b, W[x.1]? = some b := ⟨_, List.getElem?_eq_getElem ok.1⟩
theorem Gw.sz12 {W : List Bi} (g : Gw W) {c : Nat} : sz W c ≤ 12 := by
  unfold sz
  split
  · decide
  · split
    · rename_i b h
      exact g.tl b (List.mem_of_getElem? h)
    · decide
section
variable {K : PySem.W.Frag} {H H' : Hp} {Q : VK} {v u : V} {W : List Bi} {b : Bi} {x y : Sg} {c : Nat}
theorem r_bi (h : WdV K H v W) (hc : W[c]? = some b) (q : ∀ u, BiV K H u b → Q u H) : rIx K v (.int (c : Nat)) H Q := r_ixTV h hc q
theorem r_biL (h : BiV K H v b) (q : ∀ u, SgV K H u b.l → Q u H) : rIx K v (.int 1) H Q := by
  obtain ⟨p, lv, rv, rfl, hp, hl, hr⟩ := h
  exact r_ixT hp.sq (atI_nat (j := 1) rfl) (q lv hl)
theorem r_biR (h : BiV K H v b) (q : ∀ u, SgV K H u b.r → Q u H) : rIx K v (.int 2) H Q := by
  obtain ⟨p, lv, rv, rfl, hp, hl, hr⟩ := h
  exact r_ixT hp.sq (atI_nat (j := 2) rfl) (q rv hr)
theorem r_biW (h : BiV K H v b) (q : Q (.int (b.who : Nat)) H) : rIx K v (.int 0) H Q := by
  obtain ⟨p, lv, rv, rfl, hp, hl, hr⟩ := h
  exact r_ixT hp.sq (atI_nat (j := 0) rfl) q
theorem r_biT (h : BiV K H v b) (q : Q (.str b.t) H) : rIx K v (.int 3) H Q := by
  obtain ⟨p, lv, rv, rfl, hp, hl, hr⟩ := h
  exact r_ixT hp.sq (atI_nat (j := 3) rfl) q
end
section
variable {K : PySem.W.Frag} {H H' : Hp} {Q : VK} {v : V} {b : Bi}
theorem r_biSl (h : BiV K H v b) (q : ∀ p H', Ex H H' → SpV K H' (.ref p) (b.l, b.r) → Q (.ref p) H') : rSlU K v (some 1) (some 3) H Q := by
  obtain ⟨p, lv, rv, rfl, hp, hl, hr⟩ := h
  refine .inr (.inr ⟨p, _, rfl, hp.sq, fun z => ?_, fun _ p2 hp2 => ?_⟩)
  · exact absurd (show (1 : Nat) = 0 from z.1) (by decide)
  · have e : cutV [V.int (b.who : Nat), lv, rv, V.str b.t] (some 1) (some 3) = [lv, rv] := by rfl
    rw [e]
    have ex : Ex H (upd H p2 (.tup [lv, rv])) := Same.new (Same.refl H) hp2
    exact q p2 _ ex ⟨p2, lv, rv, rfl, .inl upd_same, imm (.ex ex) hl, imm (.ex ex) hr⟩
end
/-- whole numbers -/
def NumV (_ : Hp) (v : V) (i : Int) : Prop := v = .int i
instance : Imm NumV := ⟨fun _ h => h⟩
/-! ### a row as it is laid -/
section
variable {W : List Bi} {n : Nat}
/-- a row of all signs below n, in the order -/
structure Kp (W : List Bi) (n : Nat) (row : List Sg) : Prop where
  nd : row.Nodup
  mem : ∀ x, x ∈ row ↔ Ok (sz W) n x
  lt : ∀ (i j : Nat) (x y : Sg), row[i]? = some x → row[j]? = some y → A (lf W) (rf W) x y → i < j
def putIn (W : List Bi) (row : List Sg) (c at_ : Nat) : List Sg := row.take at_ ++ Tl.rowOf (sz W) c ++ row.drop at_
theorem nodup_split {α : Type} {l : List α} {k : Nat} (h : l.Nodup) : ∀ x, x ∈ l.take k → x ∉ l.drop k := by
  intro x h1 h2
  have := h
  rw [← List.take_append_drop k l, List.nodup_append] at this
  exact this.2.2 x h1 x h2 rfl
theorem Kp.one : Kp W 1 [(0, 0), (0, 1)] where
  nd := by decide
  mem := fun x => by
    constructor
    · intro h
      simp only [List.mem_cons, List.not_mem_nil, or_false] at h
      rcases h with rfl | rfl
      · exact ⟨by decide, show 0 < 2 by decide⟩
      · exact ⟨by decide, show 1 < 2 by decide⟩
    · rintro ⟨h1, h2⟩
      obtain ⟨a, b⟩ := x
      have ea : a = 0 := Nat.lt_one_iff.mp h1
      subst ea
      have h2 : b < 2 := h2
      have : b = 0 ∨ b = 1 := by omega
      rcases this with rfl | rfl <;> simp
  lt := fun i j x y hi hj a => by
    have li := (List.getElem?_eq_some_iff.mp hi).1
    have lj := (List.getElem?_eq_some_iff.mp hj).1
    have li : i < 2 := li
    have lj : j < 2 := lj
    have ci : i = 0 ∨ i = 1 := by omega
    have cj : j = 0 ∨ j = 1 := by omega
    have s : x.1 = y.1 := by
      rcases ci with rfl | rfl <;> rcases cj with rfl | rfl <;> simp at hi hj <;> rw [← hi, ← hj]
    have a2 := (A.same_iff s).mp a
    rcases ci with rfl | rfl <;> rcases cj with rfl | rfl <;> simp at hi hj <;> rw [← hi, ← hj] at a2 <;> simp at a2 ⊢
/-- the place of an item -/
theorem idx_at {row : List Sg} {x : Sg} (h : x ∈ row) : row[row.idxOf x]? = some x := by
  rw [List.getElem?_eq_getElem (List.idxOf_lt_length_of_mem h), List.getElem_idxOf]
theorem idx_first {row : List Sg} {x : Sg} : ∀ i, i < row.idxOf x → row[i]? ≠ some x := by
  intro i hi e
  obtain ⟨h, e⟩ := List.getElem?_eq_some_iff.mp e
  have := List.not_of_lt_findIdx (xs := row) (p := (· == x)) (i := i) hi
  rw [e] at this
  simp at this
theorem nd_idx {row : List Sg} (nd : row.Nodup) {i : Nat} {x : Sg} (h : row[i]? = some x) : row.idxOf x = i := by
  have h1 := idx_at (List.mem_of_getElem? h)
  exact (List.getElem?_inj (List.idxOf_lt_length_of_mem (List.mem_of_getElem? h)) nd).mp (h1.trans h.symm)
variable (wv : Wv (lf W) (rf W) (sz W) W.length)
include wv
theorem Kp.put {row : List Sg} {at_ : Nat} (k : Kp W n row) (n0 : 0 < n) (nl : n < W.length) (h1 : row.idxOf (lf W n) < at_) (h2 : at_ ≤ row.idxOf (rf W n)) : Kp W (n + 1) (putIn W row n at_) := by
  have okl := wv.okL n0 nl
  have okr := wv.okR n0 nl
  have ml : lf W n ∈ row := (k.mem _).mpr ⟨wv.l n n0 nl, okl.2⟩
  have mr : rf W n ∈ row := (k.mem _).mpr ⟨wv.r n n0 nl, okr.2⟩
  have li := idx_at ml
  have ri := idx_at mr
  have rlen := List.idxOf_lt_length_of_mem mr
  have atl : at_ ≤ row.length := by omega
  have tkl : (row.take at_).length = at_ := by rw [List.length_take]; omega
  have old : ∀ x, x ∈ row → x.1 < n := fun x hx => ((k.mem x).mp hx).1
  have new : ∀ x, x ∈ Tl.rowOf (sz W) n → x.1 = n ∧ x.2 < sz W n := fun x hx => by
    unfold Tl.rowOf at hx
    obtain ⟨i, hi, rfl⟩ := List.mem_map.mp hx
    exact ⟨rfl, List.mem_range.mp hi⟩
  have newAt : ∀ {i : Nat} {x : Sg}, (Tl.rowOf (sz W) n)[i]? = some x → x = (n, i) := fun {i x} hx => by
    unfold Tl.rowOf at hx
    rw [List.getElem?_map] at hx
    obtain ⟨j, hj, rfl⟩ := Option.map_eq_some_iff.mp hx
    have lj := (List.getElem?_eq_some_iff.mp hj).1
    rw [List.length_range] at lj
    rw [List.getElem?_range lj] at hj
    rw [Option.some.inj hj]
  refine ⟨?_, fun x => ?_, ?_⟩
  · unfold putIn
    rw [List.append_assoc, List.nodup_append]
    refine ⟨k.nd.sublist (List.take_sublist _ _), ?_, ?_⟩
    · rw [List.nodup_append]
      refine ⟨?_, k.nd.sublist (List.drop_sublist _ _), fun x hx y hy e => ?_⟩
      · unfold Tl.rowOf
        exact List.Pairwise.map _ (fun a b h e => h (Prod.mk.inj e).2) List.nodup_range
      · subst e
        have := old _ (List.mem_of_mem_drop hy)
        have := (new _ hx).1
        omega
    · intro x hx y hy e
      subst e
      rcases List.mem_append.mp hy with hy | hy
      · have := old _ (List.mem_of_mem_take hx)
        have := (new _ hy).1
        omega
      · exact nodup_split k.nd x hx hy
  · unfold putIn
    rw [List.mem_append, List.mem_append]
    constructor
    · rintro ((h | h) | h)
      · exact ((k.mem x).mp (List.mem_of_mem_take h)).mono (by omega)
      · obtain ⟨a, b⟩ := new x h
        exact ⟨by omega, by rw [a]; exact b⟩
      · exact ((k.mem x).mp (List.mem_of_mem_drop h)).mono (by omega)
    · intro ok
      by_cases e : x.1 = n
      · refine .inl (.inr ?_)
        unfold Tl.rowOf
        exact List.mem_map.mpr ⟨x.2, List.mem_range.mpr (by rw [← e]; exact ok.2), Prod.ext e.symm rfl⟩
      · have hx : x ∈ row := (k.mem x).mpr ⟨by have := ok.1; omega, ok.2⟩
        rw [← List.take_append_drop at_ row] at hx
        rcases List.mem_append.mp hx with hx | hx
        · exact .inl (.inl hx)
        · exact .inr hx
  · -- where a sign of the new row stands
    have cases_at : ∀ {i : Nat} {x : Sg}, (putIn W row n at_)[i]? = some x → (i < at_ ∧ row[i]? = some x) ∨ (at_ ≤ i ∧ i < at_ + sz W n ∧ x = (n, i - at_)) ∨ (at_ + sz W n ≤ i ∧ row[i - sz W n]? = some x) := by
      intro i x h
      unfold putIn at h
      rw [List.append_assoc] at h
      by_cases c1 : i < at_
      · left
        rw [List.getElem?_append_left (by rw [tkl]; exact c1), List.getElem?_take_of_lt c1] at h
        exact ⟨c1, h⟩
      · rw [List.getElem?_append_right (by rw [tkl]; omega), tkl] at h
        by_cases c2 : i < at_ + sz W n
        · right; left
          rw [List.getElem?_append_left (by rw [Tl.rowOf_len]; omega)] at h
          exact ⟨by omega, c2, newAt h⟩
        · right; right
          rw [List.getElem?_append_right (by rw [Tl.rowOf_len]; omega), Tl.rowOf_len, List.getElem?_drop] at h
          refine ⟨by omega, ?_⟩
          rw [show i - sz W n = at_ + (i - at_ - sz W n) by omega]
          exact h
    have okW : ∀ {x : Sg}, Ok (sz W) n x → OkW W x := fun ok => ok.mono (by omega)
    -- behind the left, ahead of the right
    have ltL : ∀ {i : Nat} {x : Sg}, row[i]? = some x → A (lf W) (rf W) x (n, 0) → i < at_ := by
      intro i x hi a
      have hx := (k.mem x).mp (List.mem_of_getElem? hi)
      rcases (A.l_iff (x := x) (y := (n, 0)) hx.1).mp a with e | a
      · have e : x = lf W n := e
        rw [e] at hi
        have := nd_idx k.nd hi
        omega
      · have := k.lt i _ x _ hi li a
        omega
    have gtR : ∀ {i : Nat} {y : Sg} {c : Nat}, row[i]? = some y → A (lf W) (rf W) (n, c) y → at_ ≤ i := by
      intro i y c hi a
      have hy := (k.mem y).mp (List.mem_of_getElem? hi)
      rcases (A.r_iff (x := (n, c)) (y := y) hy.1).mp a with e | a
      · have e : rf W n = y := e
        rw [← e] at hi
        have := nd_idx k.nd hi
        omega
      · have := k.lt _ i _ y ri hi a
        omega
    have anyL : ∀ {x : Sg} {c : Nat}, x.1 < n → A (lf W) (rf W) x (n, c) → A (lf W) (rf W) x (n, 0) := fun {x c} hx a =>
      (A.l_iff (x := x) (y := (n, 0)) hx).mpr ((A.l_iff (x := x) (y := (n, c)) hx).mp a)
    intro i j x y hi hj a
    rcases cases_at hi with ⟨c1, e1⟩ | ⟨c1, c1', e1⟩ | ⟨c1, e1⟩ <;> rcases cases_at hj with ⟨c2, e2⟩ | ⟨c2, c2', e2⟩ | ⟨c2, e2⟩
    · exact k.lt i j x y e1 e2 a
    · omega
    · omega
    · exfalso
      rw [e1] at a
      have := gtR e2 a
      omega
    · rw [e1, e2] at a
      have := (A.same_iff (x := (n, i - at_)) (y := (n, j - at_)) rfl).mp a
      have : i - at_ < j - at_ := this
      omega
    · omega
    · have := k.lt _ _ x y e1 e2 a
      omega
    · exfalso
      rw [e2] at a
      have hx := (k.mem x).mp (List.mem_of_getElem? e1)
      have := ltL e1 (anyL hx.1 a)
      omega
    · have := k.lt _ _ x y e1 e2 a
      omega
/-- the left stands ahead of the right -/
theorem Kp.lr {row : List Sg} (k : Kp W n row) (n0 : 0 < n) (nl : n < W.length) : row.idxOf (lf W n) < row.idxOf (rf W n) ∧ row.idxOf (rf W n) < row.length ∧ lf W n ∈ row ∧ rf W n ∈ row := by
  have ml : lf W n ∈ row := (k.mem _).mpr ⟨wv.l n n0 nl, (wv.okL n0 nl).2⟩
  have mr : rf W n ∈ row := (k.mem _).mpr ⟨wv.r n n0 nl, (wv.okR n0 nl).2⟩
  exact ⟨k.lt _ _ _ _ (idx_at ml) (idx_at mr) (wv.lr n n0 nl), List.idxOf_lt_length_of_mem mr, ml, mr⟩
end
/-- the choice of a chunk -/
def chc (ch : List Int) (c : Nat) : Int := (ch[c - 1]?).getD 0
/-- the row of the chunks below n, laid by choices -/
def laid (W : List Bi) (ch : List Int) : Nat → List Sg
  | 0 => [(0, 0), (0, 1)]
  | 1 => [(0, 0), (0, 1)]
  | n + 2 =>
    let row := laid W ch (n + 1)
    let b := row.idxOf (lf W (n + 1)) + 1
    putIn W row (n + 1) (b + (chc ch (n + 1) % (((row.idxOf (rf W (n + 1)) - b : Nat) : Int) + 1)).toNat)
theorem laid_succ {W : List Bi} {ch : List Int} {n : Nat} (h : 0 < n) : laid W ch (n + 1) = putIn W (laid W ch n) n ((laid W ch n).idxOf (lf W n) + 1 + (chc ch n % ((((laid W ch n).idxOf (rf W n) - ((laid W ch n).idxOf (lf W n) + 1) : Nat) : Int) + 1)).toNat) := by
  cases n with
  | zero => exact absurd h (Nat.lt_irrefl _)
  | succ n => rfl
theorem laid_kp {W : List Bi} (wv : Wv (lf W) (rf W) (sz W) W.length) {ch : List Int} : ∀ n, 0 < n → n ≤ W.length → Kp W n (laid W ch n)
  | 0, h, _ => absurd h (Nat.lt_irrefl _)
  | 1, _, _ => Kp.one
  | n + 2, _, hl => by
    have k := laid_kp wv (ch := ch) (n + 1) (by omega) (by omega)
    obtain ⟨a, b, _, _⟩ := k.lr wv (by omega) (by omega)
    have m1 := Int.emod_nonneg (chc ch (n + 1)) (b := (((laid W ch (n + 1)).idxOf (rf W (n + 1)) - ((laid W ch (n + 1)).idxOf (lf W (n + 1)) + 1) : Nat) : Int) + 1) (by omega)
    have m2 := Int.emod_lt_of_pos (chc ch (n + 1)) (b := (((laid W ch (n + 1)).idxOf (rf W (n + 1)) - ((laid W ch (n + 1)).idxOf (lf W (n + 1)) + 1) : Nat) : Int) + 1) (by omega)
    exact k.put wv (by omega) (by omega) (by omega) (by omega)
end Wd

namespace K23
open PySem PySem.Spec PyProof.Rows L2 Dk Tl
/-- one step of a reading -/
local macro_rules | `(tactic| walk_at "rd1") => `(tactic| first
  | ((with_reducible refine r_var (v := ?rv) ?rh ?_); (case rh => rfl))
  | with_reducible refine r_c ?_
  | with_reducible refine r_seq ?_
  | with_reducible refine r_asg ?_
  | with_reducible refine r_par ?_
  | with_reducible refine r_gname ?_
  | with_reducible refine r_op ?_
  | with_reducible refine r_forLo ?_
  | with_reducible refine r_forTo ?_
  | with_reducible refine r_forSo ?_
  | with_reducible refine r_forRo ?_
  | with_reducible refine r_forRvo ?_
  | with_reducible refine r_forZo ?_
  | with_reducible refine r_revS ?_
  | with_reducible refine r_lcRo ?_
  | with_reducible refine r_lcLo ?_
  | with_reducible refine r_yes ?_
  | with_reducible refine r_callK0 ?_
  | with_reducible refine r_break ?_
  | with_reducible refine r_forR2o ?_
  | with_reducible refine r_forEo ?_
  | with_reducible refine r_forESo ?_
  | with_reducible refine r_xfo ?_
  | with_reducible refine r_noP ?_
  | with_reducible refine r_part ?_
  | with_reducible refine r_pI ?_
  | with_reducible refine r_gcons ?_
  | with_reducible refine r_gnil ?_
  | with_reducible refine r_mkO ?_
  | with_reducible refine r_un ?_
  | with_reducible refine r_addI ?_
  | with_reducible refine r_I0 ?_
  | with_reducible refine r_U ?_
  | with_reducible refine r_cons ?_
  | with_reducible refine r_nil ?_
  | with_reducible refine r_CB ?_
  | with_reducible refine r_call ?_
  | with_reducible refine r_callS ?_
  | with_reducible refine r_int ?_
  | with_reducible refine r_max ?_
  | with_reducible refine r_min ?_
  | with_reducible refine r_test ?_
  | with_reducible refine r_B ?_
  | with_reducible refine r_blv ?_
  | with_reducible refine r_and ?_
  | with_reducible refine r_or ?_
  | with_reducible refine r_not ?_
  | with_reducible refine r_andV ?_
  | with_reducible refine r_orV ?_
  | with_reducible refine r_notV ?_
  | with_reducible refine r_ifE ?_
  | with_reducible refine r_ifS ?_
  | with_reducible refine r_ret ?_
  | with_reducible refine r_retN ?_
  | with_reducible refine r_drop ?_
  | with_reducible refine r_next ?_
  | with_reducible refine r_sl ?_
  | with_reducible refine r_gsub ?_
  | with_reducible refine r_bm ?_
  | with_reducible refine r_tup ?_
  | with_reducible refine r_lst ?_
  | with_reducible refine r_isN ?_
  | with_reducible refine r_notN ?_
  | with_reducible refine r_chain ?_
  | with_reducible refine r_lcEio ?_
  | with_reducible refine r_forEi ?_
  | with_reducible refine r_lcTo ?_
  | with_reducible refine r_m1 ?_
  | with_reducible refine r_dget ?_
  | with_reducible refine r_din ?_
  | with_reducible refine r_dnotin ?_
  | with_reducible refine r_starC ?_
  | with_reducible refine r_callKS ?_
  | with_reducible refine r_itt ?_
  | with_reducible refine r_iff ?_
  | with_reducible refine r_ittN ?_
  | with_reducible refine r_iffN ?_
  | ((with_reducible refine r_ittD ?rh ?_); (case rh => rfl))
  | ((with_reducible refine r_iffD ?rh ?_); (case rh => rfl))
  | ((with_reducible refine r_modP ?rh ?_); (case rh => decide))
  | ((with_reducible refine r_eq ?rh ?_); (case rh => rfl))
  | ((with_reducible refine r_eqP ?rh ?_); (case rh => rfl))
  | ((with_reducible refine r_ne ?rh ?_); (case rh => rfl)))
local macro_rules | `(tactic| walk_at "rd") => `(tactic| repeat walk_at "rd1")
local macro_rules | `(tactic| walk_at "isi") => `(tactic| first | refine r_isi (b := true) (by assumption) (by decide +kernel) ?_ | refine r_isi (b := false) (by assumption) (by decide +kernel) ?_)
local macro_rules | `(tactic| walk_at "rs1") => `(tactic| first
  | with_reducible refine r_seq ?_
  | with_reducible refine r_asg ?_
  | with_reducible refine r_gname ?_
  | with_reducible refine r_ret ?_)
local macro_rules | `(tactic| walk_at "rs") => `(tactic| repeat walk_at "rs1")

open Wd
section
variable {P : Program} {w : World} {K : PySem.W.Frag} {mg : Str → Option Value} {base : Heap}
def spHops (K : PySem.W.Frag) : Sp := fun vs H Q _ => ∃ (b v u : V) (W : List Bi) (x y : Sg), vs = [b, v, u] ∧ WdV K H b W ∧ Gw W ∧ SgV K H v x ∧ SgV K H u y ∧ OkW W x ∧ OkW W y ∧
  ∀ p H' hs, Ex H H' → TupV K (SpV K) H' (.ref p) hs → Hps (lf W) (rf W) x y hs → hs.length ≤ W.length → Q (.ref p) H'
theorem ok_hops_of (T : Txt K mg) : FnOk P w K mg base CX0 1 T.a_hops_of T.d_hops_of ["births", "one", "other"] (spHops K) := by
  refine T.F_hops_of.ok sc_hops_of (fun vs H Q E h => ?_) (fun cdv A outer s H vs Q E hr h => ?_)
  · obtain ⟨b, v, u, W, x, y, rfl, _⟩ := h
    rfl
  · obtain ⟨b, v, u, W, x, y, rfl, wd, gw, hv, hu, okx, oky, q⟩ := h
    refine ⟨_, (pss_cons (ps_set (i := 3) sc_hops_of.nd rfl (Or.inl rfl) (pe_lst (pa_cons (pe_tup (pa_cons (pv 1) (pa_cons (pv 2) pa_nil))) pa_nil)))
        (pss_cons (ps_while PassesOwn.never (pt_cmpR (op_neU hr.units) (pe_ix ix_seq (pv 1) pe_int (fun _ _ => rfl)) (pe_ix ix_seq (pv 2) pe_int (fun _ _ => rfl)) (nomark _)) (Evl.pss_cut (ps_if (pt_cmpR op_gt (pe_ix ix_seq (pv 1) pe_int (fun _ _ => rfl)) (pe_ix ix_seq (pv 2) pe_int (fun _ _ => rfl)) (nomark _)) (pss_one (ps_set (i := 1) sc_hops_of.nd rfl (Or.inl rfl) (pe_ix ix_seq (pe_ix ix_seq (pv 0) (pe_ix ix_seq (pv 1) pe_int (fun _ _ => rfl)) (fun _ _ => rfl)) pe_int (fun _ _ => rfl)))) (pss_one (ps_set (i := 2) sc_hops_of.nd rfl (Or.inl rfl) (pe_ix ix_seq (pe_ix ix_seq (pv 0) (pe_ix ix_seq (pv 2) pe_int (fun _ _ => rfl)) (fun _ _ => rfl)) pe_int (fun _ _ => rfl)))))
        (pss_one (ps_expr (pe_bm PySem.F.plainAttrs_list PySem.F.slot_list_append PySem.F.type_list_append mt_append (pv 3) (pa_cons (pe_tup (pa_cons (pv 1) (pa_cons (pv 2) pa_nil))) pa_nil))))))
        (pss_one (ps_ret (pe_callTy call_tupU (by rfl) T.n_tuple (by decide +kernel) (pa_cons (pv 3) pa_nil)))))), ?_⟩
    have wl := gw.small
    walk_at "rd"
    refine r_small nsz fun p1 n1 => ?_
    obtain ⟨H1, k1, e1, h1⟩ := nP K (R := SgV K) (S := SgV K) (x := x) (y := y) n1 hv hu
    rw [← k1]
    walk_at "rd"
    refine r_small nsz fun l nl => ?_
    obtain ⟨H2, k2, e2, h2⟩ := nL (.lst [.ref p1]) nl
    rw [← k2]
    have e12 := e1.trans e2
    have nl0 : H l = none := e1.free nl
    walk_at "rd"
    refine ⟨fun m σ H' => ∃ v u x2 y2 pre xs, σ = [some b, some v, some u, some (.ref l)] ∧ Ex H H' ∧ H' l = some (.lst xs) ∧ P2 (SpV K H') xs (pre ++ [(x2, y2)]) ∧ SgV K H' v x2 ∧ SgV K H' u y2 ∧ OkW W x2 ∧ OkW W y2 ∧
      m = x2.1 + y2.1 ∧ pre.length + max x2.1 y2.1 < W.length ∧ ∀ t, Hps (lf W) (rf W) x2 y2 t → Hps (lf W) (rf W) x y (pre ++ t), ⟨_, v, u, x, y, [], _, rfl, e12, h2, .cons (imm (.ex e2) h1) .nil, imm (.ex e12) hv, imm (.ex e12) hu, okx, oky, rfl, ?_, fun t h => h⟩, fun m σ H' hW => ?_⟩
    · have a1 := okx.1
      have a2 := oky.1
      show 0 + _ < _
      omega
    obtain ⟨v', u', x', y', pre, xs, rfl, e', hl', hP, hv', hu', okx', oky', rfl, hlen, hH⟩ := hW
    have wd' := imm (R := WdV K) (.ex e') wd
    have pl : xs.length ≤ 260 := by
      have z := hP.len
      rw [List.length_append] at z
      simp at z
      omega
    walk_at "rd"
    refine r_ixS0 hv' ?_
    walk_at "rd"
    refine r_ixS0 hu' ?_
    walk_at "rd"
    refine r_iteN (fun hne => ?_) (fun heq => ?_)
    · have hne' : x'.1 ≠ y'.1 := fun z => hne (by rw [z])
      refine ⟨fun σ H' => ∃ v u x2 y2 pre xs, σ = [some b, some v, some u, some (.ref l)] ∧ Ex H H' ∧ H' l = some (.lst xs) ∧ P2 (SpV K H') xs (pre ++ [(x2, y2)]) ∧ SgV K H' v x2 ∧ SgV K H' u y2 ∧ OkW W x2 ∧ OkW W y2 ∧
        x2.1 + y2.1 < x'.1 + y'.1 ∧ pre.length + max x2.1 y2.1 < W.length ∧ ∀ t, Hps (lf W) (rf W) x2 y2 t → Hps (lf W) (rf W) x y (pre ++ t), fun σ' H2 ⟨v, u, x2, y2, pre, xs, h1, h2, h3, h4, h5, h6, h7, h8, h9, h10, h11⟩ => ⟨_, h9, v, u, x2, y2, pre, xs, h1, h2, h3, h4, h5, h6, h7, h8, rfl, h10, h11⟩, ?_⟩
      walk_at "rs"
      refine ⟨fun σ H2 => H2 = H' ∧ ∃ v u x2 y2, σ = [some b, some v, some u, some (.ref l)] ∧ SgV K H' v x2 ∧ SgV K H' u y2 ∧ OkW W x2 ∧ OkW W y2 ∧ x2.1 + y2.1 < x'.1 + y'.1 ∧ pre.length + 1 + max x2.1 y2.1 < W.length ∧ ∀ t, Hps (lf W) (rf W) x2 y2 t → Hps (lf W) (rf W) x' y' ((x', y') :: t), ?_, ?_⟩
      · walk_at "rd"
        refine r_ixS0 hv' ?_
        walk_at "rd"
        refine r_ixS0 hu' ?_
        walk_at "rd"
        refine r_ite (fun hgt => ?_) (fun hle => ?_)
        · have hg : y'.1 < x'.1 := by omega
          obtain ⟨bb, hb⟩ := okx'.at
          walk_at "rd"
          refine r_ixS0 hv' ?_
          walk_at "rd"
          refine r_bi wd' hb fun ub hub => ?_
          walk_at "rd"
          refine r_biR hub fun rv hR => ?_
          rw [← rf_at hb] at hR
          walk_at "rd"
          have w1 := gw.wv.okR (show 0 < x'.1 by omega) okx'.1
          have w2 := gw.wv.r x'.1 (by omega) okx'.1
          exact ⟨rfl, rv, u', rf W x'.1, y', rfl, hR, hu', w1, oky', by omega, by omega, fun t ht => .rgo hg ht⟩
        · have hg : x'.1 < y'.1 := by omega
          obtain ⟨bb, hb⟩ := oky'.at
          walk_at "rd"
          refine r_ixS0 hu' ?_
          walk_at "rd"
          refine r_bi wd' hb fun ub hub => ?_
          walk_at "rd"
          refine r_biL hub fun lv hL => ?_
          rw [← lf_at hb] at hL
          walk_at "rd"
          have w1 := gw.wv.okL (show 0 < y'.1 by omega) oky'.1
          have w2 := gw.wv.l y'.1 (by omega) oky'.1
          exact ⟨rfl, v', lv, x', lf W y'.1, rfl, hv', hL, okx', w1, by omega, by omega, fun t ht => .lgo hg ht⟩
      · rintro σ H2 ⟨rfl, v2, u2, x2, y2, rfl, sv2, su2, ok2, ok3, hm, hl2, hh⟩
        walk_at "rd"
        refine r_tyL (sqL hl') ?_
        walk_at "rd"
        refine r_small nsz fun p5 n5 => ?_
        obtain ⟨H5, k5, e5, h5⟩ := nP K (R := SgV K) (S := SgV K) (x := x2) (y := y2) n5 sv2 su2
        rw [← k5]
        have hl5 := e5 _ _ hl'
        walk_at "rd"
        refine r_app hl5 (Nat.lt_of_le_of_lt pl (by decide)) ?_
        have tp := Tk.put (o := .lst (xs ++ [.ref p5])) hl5
        have t5 := (Tk.ex e5).trans tp
        walk_at "rd"
        refine ⟨v2, u2, x2, y2, pre ++ [(x', y')], _, rfl, Same.mut (e'.trans e5) nl0, upd_same, ?_, imm t5 sv2, imm t5 su2, ok2, ok3, hm, ?_, fun t ht => ?_⟩
        · exact (p2_imm t5 hP).snoc (imm tp h5)
        · rw [List.length_append]
          exact hl2
        · rw [List.append_assoc]
          exact hH _ (hh t ht)
    · have heq' : x'.1 = y'.1 := Int.ofNat.inj (V.int.inj heq)
      walk_at "rd"
      refine r_tupLV hl' hP fun p6 H6 n6 e6 h6 => ?_
      refine q p6 H6 _ (e'.trans e6) h6 (hH _ (.stop heq')) ?_
      rw [List.length_append]
      show _ + 1 ≤ _
      omega
def spTA (K : PySem.W.Frag) (R : (Nat → Sg) → (Nat → Sg) → Sg → Sg → Prop) : Sp := fun vs H Q _ => ∃ (b v u : V) (W : List Bi) (x y : Sg), vs = [b, v, u] ∧ WdV K H b W ∧ Gw W ∧ SgV K H v x ∧ SgV K H u y ∧ OkW W x ∧ OkW W y ∧
  ∀ c H', Ex H H' → (c = true ↔ R (lf W) (rf W) x y) → Q (.bl c) H'
theorem ok_told_ahead (T : Txt K mg) : FnOk P w K mg base CX0 2 T.a_told_ahead T.d_told_ahead ["births", "one", "other"] (spTA K Tl.A) := by
  refine T.F_told_ahead.ok sc_told_ahead (fun vs H Q E h => ?_) (fun cdv A outer s H vs Q E hr h => ?_)
  · obtain ⟨b, v, u, W, x, y, rfl, _⟩ := h
    rfl
  · obtain ⟨b, v, u, W, x, y, rfl, wd, gw, hv, hu, okx, oky, q⟩ := h
    refine ⟨_, (pss_cons (ps_set (i := 3) sc_told_ahead.nd rfl (Or.inl rfl) (pe_call (ok_hops_of T) hr (by rfl) T.g_hops_of T.F_hops_of.kp T.b_hops_of .nil pass0 (pa_cons (pv 0) (pa_cons (pv 1) (pa_cons (pv 2) pa_nil)))))
        (pss_cons (ps_asg (pe_ix ix_seq (pv 3) (pe_un un_neg pe_int) (fun _ _ => rfl)) (pg_tup rfl (pgs_cons (pg_name (i := 4) sc_told_ahead.nd rfl (Or.inl rfl)) (pgs_cons (pg_name (i := 5) sc_told_ahead.nd rfl (Or.inl rfl)) pgs_nil))))
        (pss_one (ps_ret (pe_or (pe_cmpR op_lt (pe_ix ix_seq (pv 4) pe_int (fun _ _ => rfl)) (pe_ix ix_seq (pv 5) pe_int (fun _ _ => rfl)) (nomark _)) (pe_one (pe_and (pe_cmpR (op_eqU hr.units) (pe_ix ix_seq (pv 4) pe_int (fun _ _ => rfl)) (pe_ix ix_seq (pv 5) pe_int (fun _ _ => rfl)) (nomark _)) (pe_one (pe_cmpR op_gt (pe_callB call_lenU (by rfl) T.n_len (by decide +kernel) (pa_cons (pv 3) pa_nil)) pe_int (nomark _)))))))))), ?_⟩
    walk_at "rd"
    refine ⟨b, v, u, W, x, y, rfl, wd, gw, hv, hu, okx, oky, fun p H1 hs e1 hp hh hl => ?_⟩
    obtain ⟨l, r, pre, e, _, iff⟩ := hh.last
    walk_at "rd"
    rw [e] at hp
    refine r_ixTm hp fun wz hwz => ?_
    refine r_gP hwz fun x1 x2 s1 s2 => ?_
    walk_at "rd"
    refine r_ixS1 s1 ?_
    walk_at "rd"
    refine r_ixS1 s2 ?_
    walk_at "rd"
    have key : ∀ c : Bool, (c = true ↔ (l.2 < r.2 ∨ (l.2 = r.2 ∧ 1 < hs.length))) → Q (.bl c) H1 := fun c hc => q c H1 e1 (hc.trans iff.symm)
    refine r_ite (fun h1 => ?_) (fun h1 => ?_)
    · have h1 : l.2 < r.2 := by have : ((l.2 : Nat) : Int) < ((r.2 : Nat) : Int) := h1; omega
      exact key true ⟨fun _ => .inl h1, fun _ => rfl⟩
    · have h1 : ¬ l.2 < r.2 := by have : ¬ ((l.2 : Nat) : Int) < ((r.2 : Nat) : Int) := h1; omega
      walk_at "rd"
      refine r_ixS1 s1 ?_
      walk_at "rd"
      refine r_ixS1 s2 ?_
      walk_at "rd"
      by_cases h2 : l.2 = r.2
      · rw [decide_eq_true (show V.int (((l, r).1.2 : Nat) : Int) = V.int (((l, r).2.2 : Nat) : Int) by show V.int ((l.2 : Nat) : Int) = V.int ((r.2 : Nat) : Int); rw [h2])]
        walk_at "rd"
        refine r_lenTV hp ?_
        walk_at "rd"
        refine key _ ?_
        rw [decide_eq_true_iff, ← e]
        constructor
        · intro g; exact .inr ⟨h2, by omega⟩
        · rintro (g | ⟨_, g⟩)
          · exact absurd g h1
          · omega
      · rw [decide_eq_false (show ¬ V.int (((l, r).1.2 : Nat) : Int) = V.int (((l, r).2.2 : Nat) : Int) from fun g => h2 (by have g : V.int ((l.2 : Nat) : Int) = V.int ((r.2 : Nat) : Int) := g; have := V.int.inj g; omega))]
        walk_at "rd"
        exact key false ⟨fun g => absurd g (by decide), fun g => by rcases g with g | g; exact absurd g h1; exact absurd g.1 h2⟩
theorem ok_at_or_ahead (T : Txt K mg) : FnOk P w K mg base CX0 3 T.a_at_or_ahead T.d_at_or_ahead ["births", "one", "other"] (spTA K Tl.E) := by
  refine T.F_at_or_ahead.ok sc_at_or_ahead (fun vs H Q E h => ?_) (fun cdv A outer s H vs Q E hr h => ?_)
  · obtain ⟨b, v, u, W, x, y, rfl, _⟩ := h
    rfl
  · obtain ⟨b, v, u, W, x, y, rfl, wd, gw, hv, hu, okx, oky, q⟩ := h
    refine ⟨_, (pss_one (ps_ret (pe_or (pe_cmpR (op_eqU hr.units) (pv 1) (pv 2) (nomark _)) (pe_one (pe_call (ok_told_ahead T) hr (by rfl) T.g_told_ahead T.F_told_ahead.kp T.b_told_ahead .nil pass0 (pa_cons (pv 0) (pa_cons (pv 1) (pa_cons (pv 2) pa_nil)))))))), ?_⟩
    walk_at "rd"
    refine r_eqSg hv hu ?_
    walk_at "rd"
    by_cases e : x = y
    · rw [decide_eq_true e]
      walk_at "rd"
      exact q true H (Same.refl H) ⟨fun _ => .inl e, fun _ => rfl⟩
    · rw [decide_eq_false e]
      walk_at "rd"
      exact ⟨b, v, u, W, x, y, rfl, wd, gw, hv, hu, okx, oky, fun c H1 e1 hc => q c H1 e1 (hc.trans ⟨.inr, fun g => g.resolve_left e⟩)⟩
def spLetter (K : PySem.W.Frag) : Sp := fun vs H Q _ => ∃ (b v : V) (W : List Bi) (x : Sg) (bi : Bi) (c : Nat), vs = [b, v] ∧ WdV K H b W ∧ SgV K H v x ∧ W[x.1]? = some bi ∧ bi.t.length ≤ 1000 ∧ (cs bi.t)[x.2]? = some c ∧ Q (.str ⟨#[c]⟩) H
theorem ok_letter_of (T : Txt K mg) : FnOk P w K mg base CX0 1 T.a_letter_of T.d_letter_of ["births", "sign"] (spLetter K) := by
  refine T.F_letter_of.ok sc_letter_of (fun vs H Q E h => ?_) (fun cdv A outer s H vs Q E hr h => ?_)
  · obtain ⟨b, v, W, x, bi, c, rfl, _⟩ := h
    rfl
  · obtain ⟨b, v, W, x, bi, c, rfl, wd, hv, hb, tl, hc, q⟩ := h
    refine ⟨_, (pss_one (ps_ret (pe_ix ix_seq (pe_ix ix_seq (pe_ix ix_seq (pv 0) (pe_ix ix_seq (pv 1) pe_int (fun _ _ => rfl)) (fun _ _ => rfl)) pe_int (fun _ _ => rfl)) (pe_ix ix_seq (pv 1) pe_int (fun _ _ => rfl)) (fun _ _ => rfl)))), ?_⟩
    walk_at "rd"
    refine r_ixS0 hv ?_
    walk_at "rd"
    refine r_bi wd hb fun u hu => ?_
    walk_at "rd"
    refine r_biT hu ?_
    walk_at "rd"
    refine r_ixS1 hv ?_
    walk_at "rd"
    refine r_ixS (by rw [sizeLine_eq]; omega) (atI_nat hc) ?_
    exact q
def spSize (K : PySem.W.Frag) : Sp := fun vs H Q _ => ∃ (b : V) (W : List Bi) (c : Nat), vs = [b, .int (c : Nat)] ∧ WdV K H b W ∧ Gw W ∧ c < W.length ∧ Q (.int (sz W c : Nat)) H
theorem ok_chunk_size (T : Txt K mg) : FnOk P w K mg base CX0 1 T.a_chunk_size T.d_chunk_size ["births", "chunk"] (spSize K) := by
  refine T.F_chunk_size.ok sc_chunk_size (fun vs H Q E h => ?_) (fun cdv A outer s H vs Q E hr h => ?_)
  · obtain ⟨b, W, c, rfl, _⟩ := h
    rfl
  · obtain ⟨b, W, c, rfl, wd, gw, hc, q⟩ := h
    refine ⟨_, (pss_cons (ps_if (pt_cmpR (op_eqU hr.units) (pv 1) pe_int (nomark _)) (pss_one (ps_ret pe_int)) pss_nil)
        (pss_one (ps_ret (pe_callB call_lenU (by rfl) T.n_len (by decide +kernel) (pa_cons (pe_ix ix_seq (pe_ix ix_seq (pv 0) (pv 1) (fun _ _ => rfl)) pe_int (fun _ _ => rfl)) pa_nil))))), ?_⟩
    walk_at "rd"
    by_cases h0 : c = 0
    · subst h0
      exact q
    · rw [decide_eq_false (show ¬ V.int ((c : Nat) : Int) = V.int 0 from fun g => h0 (by have := V.int.inj g; omega))]
      obtain ⟨bi, hb⟩ : ∃ bi, W[c]? = some bi := ⟨_, List.getElem?_eq_getElem hc⟩
      walk_at "rd"
      refine r_bi wd hb fun u hu => ?_
      walk_at "rd"
      refine r_biT hu ?_
      walk_at "rd"
      have z := gw.tl bi (List.mem_of_getElem? hb)
      refine r_lenS (by rw [sizeLine_eq]; omega) ?_
      rw [← sz_at (by omega) hb]
      exact q
def spChoice (K : PySem.W.Frag) : Sp := fun vs H Q _ => ∃ (v : V) (ch : List Int) (c : Nat), vs = [v, .int (c : Nat)] ∧ TupV K NumV H v ch ∧ 0 < c ∧ Q (.int (chc ch c)) H
theorem ok_choice_for (T : Txt K mg) : FnOk P w K mg base CX0 1 T.a_choice_for T.d_choice_for ["choices", "chunk"] (spChoice K) := by
  refine T.F_choice_for.ok sc_choice_for (fun vs H Q E h => ?_) (fun cdv A outer s H vs Q E hr h => ?_)
  · obtain ⟨v, ch, c, rfl, _⟩ := h
    rfl
  · obtain ⟨v, ch, c, rfl, hv, c0, q⟩ := h
    refine ⟨_, (pss_cons (ps_if (pt_cmpR op_gt (pv 1) (pe_callB call_lenU (by rfl) T.n_len (by decide +kernel) (pa_cons (pv 0) pa_nil)) (nomark _)) (pss_one (ps_ret pe_int)) pss_nil)
        (pss_one (ps_ret (pe_ix ix_seq (pv 0) (pe_op op_sub (pv 1) pe_int) (fun _ _ => rfl))))), ?_⟩
    walk_at "rd"
    refine r_lenTV hv ?_
    walk_at "rd"
    unfold chc at q
    refine r_ite (fun h1 => ?_) (fun h1 => ?_)
    · rw [List.getElem?_eq_none (by omega)] at q
      walk_at "rd"
      exact q
    · obtain ⟨i, hi⟩ : ∃ i, ch[c - 1]? = some i := ⟨_, List.getElem?_eq_getElem (by omega)⟩
      rw [hi] at q
      walk_at "rd"
      rw [show ((c : Nat) : Int) - 1 = ((c - 1 : Nat) : Int) by omega]
      refine r_ixTV hv hi fun u hu => ?_
      rw [hu]
      exact q
end
end K23

namespace K23
open PySem PySem.Spec PyProof.Rows L2 Dk Tl
/-- one step of a reading -/
local macro_rules | `(tactic| walk_at "rd1") => `(tactic| first
  | ((with_reducible refine r_var (v := ?rv) ?rh ?_); (case rh => rfl))
  | with_reducible refine r_c ?_
  | with_reducible refine r_seq ?_
  | with_reducible refine r_asg ?_
  | with_reducible refine r_par ?_
  | with_reducible refine r_gname ?_
  | with_reducible refine r_op ?_
  | with_reducible refine r_forLo ?_
  | with_reducible refine r_forTo ?_
  | with_reducible refine r_forSo ?_
  | with_reducible refine r_forRo ?_
  | with_reducible refine r_forRvo ?_
  | with_reducible refine r_forZo ?_
  | with_reducible refine r_revS ?_
  | with_reducible refine r_lcRo ?_
  | with_reducible refine r_lcLo ?_
  | with_reducible refine r_yes ?_
  | with_reducible refine r_callK0 ?_
  | with_reducible refine r_break ?_
  | with_reducible refine r_forR2o ?_
  | with_reducible refine r_forEo ?_
  | with_reducible refine r_forESo ?_
  | with_reducible refine r_xfo ?_
  | with_reducible refine r_noP ?_
  | with_reducible refine r_part ?_
  | with_reducible refine r_pI ?_
  | with_reducible refine r_gcons ?_
  | with_reducible refine r_gnil ?_
  | with_reducible refine r_mkO ?_
  | with_reducible refine r_un ?_
  | with_reducible refine r_addI ?_
  | with_reducible refine r_I0 ?_
  | with_reducible refine r_U ?_
  | with_reducible refine r_cons ?_
  | with_reducible refine r_nil ?_
  | with_reducible refine r_CB ?_
  | with_reducible refine r_call ?_
  | with_reducible refine r_callS ?_
  | with_reducible refine r_int ?_
  | with_reducible refine r_max ?_
  | with_reducible refine r_min ?_
  | with_reducible refine r_test ?_
  | with_reducible refine r_B ?_
  | with_reducible refine r_blv ?_
  | with_reducible refine r_and ?_
  | with_reducible refine r_or ?_
  | with_reducible refine r_not ?_
  | with_reducible refine r_andV ?_
  | with_reducible refine r_orV ?_
  | with_reducible refine r_notV ?_
  | with_reducible refine r_ifE ?_
  | with_reducible refine r_ifS ?_
  | with_reducible refine r_ret ?_
  | with_reducible refine r_retN ?_
  | with_reducible refine r_drop ?_
  | with_reducible refine r_next ?_
  | with_reducible refine r_sl ?_
  | with_reducible refine r_gsub ?_
  | with_reducible refine r_bm ?_
  | with_reducible refine r_tup ?_
  | with_reducible refine r_lst ?_
  | with_reducible refine r_isN ?_
  | with_reducible refine r_notN ?_
  | with_reducible refine r_chain ?_
  | with_reducible refine r_lcEio ?_
  | with_reducible refine r_forEi ?_
  | with_reducible refine r_lcTo ?_
  | with_reducible refine r_m1 ?_
  | with_reducible refine r_dget ?_
  | with_reducible refine r_din ?_
  | with_reducible refine r_dnotin ?_
  | with_reducible refine r_starC ?_
  | with_reducible refine r_callKS ?_
  | with_reducible refine r_itt ?_
  | with_reducible refine r_iff ?_
  | with_reducible refine r_ittN ?_
  | with_reducible refine r_iffN ?_
  | ((with_reducible refine r_ittD ?rh ?_); (case rh => rfl))
  | ((with_reducible refine r_iffD ?rh ?_); (case rh => rfl))
  | ((with_reducible refine r_modP ?rh ?_); (case rh => decide))
  | ((with_reducible refine r_eq ?rh ?_); (case rh => rfl))
  | ((with_reducible refine r_eqP ?rh ?_); (case rh => rfl))
  | ((with_reducible refine r_ne ?rh ?_); (case rh => rfl)))
local macro_rules | `(tactic| walk_at "rd") => `(tactic| repeat walk_at "rd1")
local macro_rules | `(tactic| walk_at "isi") => `(tactic| first | refine r_isi (b := true) (by assumption) (by decide +kernel) ?_ | refine r_isi (b := false) (by assumption) (by decide +kernel) ?_)
local macro_rules | `(tactic| walk_at "rs1") => `(tactic| first
  | with_reducible refine r_seq ?_
  | with_reducible refine r_asg ?_
  | with_reducible refine r_gname ?_
  | with_reducible refine r_ret ?_)
local macro_rules | `(tactic| walk_at "rs") => `(tactic| repeat walk_at "rs1")

open Wd
theorem row_lens {W : List Bi} (gw : Gw W) : ∀ {n : Nat} {row : List Sg}, Kp W n row → n ≤ W.length → row.length ≤ 800 := by
  intro n row k hl
  have sub : row.length ≤ (marks (sz W) n).length := by
    have : ∀ x ∈ row, x ∈ marks (sz W) n := fun x hx => mem_marks.mpr ((k.mem x).mp hx)
    exact k.nd.length_le_of_subset this
  rw [marks_len] at sub
  have := off_upto (f := sz W) hl
  have := gw.tot
  omega
section
variable {P : Program} {w : World} {K : PySem.W.Frag} {mg : Str → Option Value} {base : Heap}
def spLaid (K : PySem.W.Frag) : Sp := fun vs H Q _ => ∃ (b c : V) (W : List Bi) (ch : List Int), vs = [b, c] ∧ WdV K H b W ∧ Gw W ∧ TupV K NumV H c ch ∧
  ∀ p H', Ex H H' → TupV K (SgV K) H' (.ref p) (laid W ch W.length) → Q (.ref p) H'
set_option maxHeartbeats 16000000 in
theorem ok_laid_out (T : Txt K mg) : FnOk P w K mg base CX0 2 T.a_laid_out T.d_laid_out ["births", "choices"] (spLaid K) := by
  refine T.F_laid_out.ok sc_laid_out (fun vs H Q E h => ?_) (fun cdv A outer s H vs Q E hr h => ?_)
  · obtain ⟨b, c, W, ch, rfl, _⟩ := h
    rfl
  · obtain ⟨b, c, W, ch, rfl, wd, gw, hc, q⟩ := h
    refine ⟨_, (pss_cons (ps_set (i := 2) sc_laid_out.nd rfl (Or.inl rfl) (pe_lst (pa_cons (pe_glob (v := .ref T.a_HEAD) rfl T.g_HEAD rfl) (pa_cons (pe_glob (v := .ref T.a_END) rfl T.g_END rfl) pa_nil))))
        (pss_cons (ps_for PassesOwn.never rfl (pi_range2 (by rfl) T.n_range (pa_cons pe_int (pa_cons (pe_callB call_lenU (by rfl) T.n_len (by decide +kernel) (pa_cons (pv 0) pa_nil)) pa_nil))) (pg_name (i := 3) sc_laid_out.nd rfl (Or.inr rfl)) (pss_cons (ps_asg (pe_slice sl_U (pe_ix ix_seq (pv 0) (pv 3) (fun _ _ => rfl)) (po_some pe_int) (po_some pe_int)) (pg_tup rfl (pgs_cons (pg_name (i := 4) sc_laid_out.nd rfl (Or.inl rfl)) (pgs_cons (pg_name (i := 5) sc_laid_out.nd rfl (Or.inl rfl)) pgs_nil))))
        (pss_cons (ps_set (i := 6) sc_laid_out.nd rfl (Or.inl rfl) (pe_op op_addU (pe_bm PySem.F.plainAttrs_list PySem.F.slot_list_index PySem.F.type_list_index (mt_indexD hr.units65) (pv 2) (pa_cons (pv 4) pa_nil)) pe_int))
        (pss_cons (ps_set (i := 7) sc_laid_out.nd rfl (Or.inl rfl) (pe_op op_sub (pe_bm PySem.F.plainAttrs_list PySem.F.slot_list_index PySem.F.type_list_index (mt_indexD3 hr.units65) (pv 2) (pa_cons (pv 5) (pa_cons (pv 6) pa_nil))) (pv 6)))
        (pss_cons (ps_set (i := 8) sc_laid_out.nd rfl (Or.inl rfl) (pe_op op_addU (pv 6) (pe_op op_modP (pe_call (ok_choice_for T) hr (by rfl) T.g_choice_for T.F_choice_for.kp T.b_choice_for .nil pass0 (pa_cons (pv 1) (pa_cons (pv 3) pa_nil))) (pe_op op_addU (pv 7) pe_int))))
        (pss_one (ps_asg (pe_lc (own := [("index", 9)]) (g := gName 9) rfl sc_laid_out.nd (pi_range1 (by rfl) T.n_range (pa_cons (pe_call (ok_chunk_size T) hr (by rfl) T.g_chunk_size T.F_chunk_size.kp T.b_chunk_size .nil pass0 (pa_cons (pv 0) (pa_cons (pv 3) pa_nil))) pa_nil)) (blkOk_by (N := N_laid_out) (sc := defScope s_laid_out) (by decide +kernel)) (fun _ _ _ _ _ => pg_name (i := 9) sc_laid_out.nd rfl (Or.inl rfl)) (fun _ _ _ _ _ => pts_nil) (fun _ _ _ _ _ => (pe_tup (pa_cons (pv 3) (pa_cons (pv 9) pa_nil))))) (pg_sli (pv 2) (po_some (pv 8)) (po_some (pv 8))))))))))
        (pss_one (ps_ret (pe_callTy call_tupU (by rfl) T.n_tuple (by decide +kernel) (pa_cons (pv 2) pa_nil)))))), ?_⟩
    have wv := gw.wv
    have wl := gw.small
    have w0 := wv.n0
    walk_at "rd"
    refine r_small nsz fun l nl => ?_
    obtain ⟨H1, k1, e1, h1⟩ := nL (.lst [.ref T.a_HEAD, .ref T.a_END]) nl
    rw [← k1]
    have r0 : SgL K H1 [.ref T.a_HEAD, .ref T.a_END] [(0, 0), (0, 1)] := .cons ⟨_, rfl, .inr ⟨rfl, T.u_HEAD⟩⟩ (.cons ⟨_, rfl, .inr ⟨rfl, T.u_END⟩⟩ .nil)
    walk_at "rd"
    refine r_lenTV (imm (.ex e1) wd) ?_
    walk_at "rd"
    refine l_R1n (by omega) (by omega) (fun i σ H' => ∃ y3 y4 y5 y6 y7 y8 y9 xs, σ = [some b, some c, some (.ref l), y3, y4, y5, y6, y7, y8, y9] ∧ Ex H H' ∧ H' l = some (.lst xs) ∧ SgL K H' xs (laid W ch i)) ⟨none, none, none, none, none, none, none, _, rfl, e1, h1, r0⟩ (fun n σ H' n1 n2 hW => ?_) (fun σ H' hW => ?_)
    · obtain ⟨y3, y4, y5, y6, y7, y8, y9, xs, rfl, e', hl', hR⟩ := hW
      have n2' : n < W.length := by omega
      have kp := laid_kp wv (ch := ch) n (by omega) (by omega)
      have rl := row_lens gw kp (by omega)
      have xl := hR.len
      obtain ⟨lr1, lr2, ml, mr⟩ := kp.lr wv (by omega) n2'
      obtain ⟨bi, hb⟩ : ∃ bi, W[n]? = some bi := ⟨_, List.getElem?_eq_getElem n2'⟩
      have wd' := imm (R := WdV K) (.ex e') wd
      walk_at "rd"
      refine r_bi wd' hb fun ub hub => ?_
      walk_at "rd"
      refine r_biSl hub fun p2 H2 e2 hp2 => ?_
      refine r_gP hp2 fun vl vr sl sr => ?_
      have sl : SgV K H2 vl (lf W n) := by rw [lf_at hb]; exact sl
      have sr : SgV K H2 vr (rf W n) := by rw [rf_at hb]; exact sr
      have hl2 := e2 _ _ hl'
      have hR2 := p2_imm (R := SgV K) (.ex e2) hR
      walk_at "rd"
      refine r_tyL (sqL hl2) ?_
      walk_at "rd"
      refine r_indexSg (sqL hl2) hR2 sl (idx_at ml) (idx_first (row := laid W ch n)) ?_
      walk_at "rd"
      refine r_tyL (sqL hl2) ?_
      walk_at "rd"
      refine r_indexSg3 (sqL hl2) hR2 sr (idx_at mr) (by omega) (by omega) (idx_first (row := laid W ch n)) ?_
      obtain ⟨A, hA⟩ : ∃ A, A = (laid W ch n).idxOf (lf W n) := ⟨_, rfl⟩
      obtain ⟨B, hB⟩ : ∃ B, B = (laid W ch n).idxOf (rf W n) := ⟨_, rfl⟩
      rw [← hA, ← hB] at lr1 ⊢
      rw [← hB] at lr2
      walk_at "rd"
      refine ⟨c, ch, n, rfl, imm (R := TupV K NumV) (.ex (e'.trans e2)) hc, by omega, ?_⟩
      walk_at "rd"
      refine r_modP (by omega) ?_
      have m1 := Int.emod_nonneg (chc ch n) (b := ((B : Nat) : Int) - (((A : Nat) : Int) + 1) + 1) (by omega)
      have m2 := Int.emod_lt_of_pos (chc ch n) (b := ((B : Nat) : Int) - (((A : Nat) : Int) + 1) + 1) (by omega)
      obtain ⟨mm, hm⟩ : ∃ mm : Nat, (mm : Int) = chc ch n % (((B : Nat) : Int) - (((A : Nat) : Int) + 1) + 1) := ⟨_, Int.toNat_of_nonneg m1⟩
      rw [← hm] at m1 m2 ⊢
      walk_at "rd"
      refine ⟨b, W, n, rfl, imm (R := WdV K) (.ex e2) wd', gw, n2', ?_⟩
      have s12 := gw.sz12 (c := n)
      walk_at "rd"
      refine l_lcR (by omega) (by omega) (fun D i H3 => ∃ acc, Ex H2 H3 ∧ H3 D = some (.lst acc) ∧ SgL K H3 acc ((List.range i).map fun k => (n, k))) (fun D hD => ⟨[], Same.new (Same.refl H2) hD, upd_same, .nil⟩) (fun D i H3 hD hi hW => ?_) (fun D H3 hD hW => ?_)
      · obtain ⟨acc, e3, ha, hP⟩ := hW
        have al := hP.len
        rw [List.length_map, List.length_range] at al
        walk_at "rd"
        refine ⟨rfl, ?_⟩
        walk_at "rd"
        refine r_small nsz fun p4 n4 => ?_
        obtain ⟨H4, k4, e4, s4⟩ := nS K (i := n) (j := i) n4 rfl rfl
        rw [← k4]
        have ha4 := e4 _ _ ha
        have tp := Tk.put (o := .lst (acc ++ [.ref p4])) ha4
        refine ⟨acc, ha4, Nat.lt_of_le_of_lt (show acc.length ≤ 1000 by omega) (by decide), acc ++ [.ref p4], Same.mut (e3.trans e4) hD, upd_same, ?_⟩
        rw [List.range_succ, List.map_append, List.map_singleton]
        exact (p2_imm ((Tk.ex e4).trans tp) hP).snoc (imm tp s4)
      · obtain ⟨acc, e3, ha, hP⟩ := hW
        have al := hP.len
        rw [List.length_map, List.length_range] at al
        have hl3 := e3 _ _ hl2
        have hR3 := p2_imm (R := SgV K) (.ex e3) hR2
        have lD : l ≠ D := fun z => by rw [← z, hl2] at hD; cases hD
        refine r_gsli ?_
        walk_at "rd"
        refine ⟨l, D, xs, acc, _, _, rfl, rfl, rfl, rfl, hl3, ha, lD, by omega, by omega, by omega, by rw [sizeLine_eq]; omega, ?_⟩
        walk_at "rd"
        have tp := Tk.put (o := .lst (xs.take (((A : Nat) : Int) + 1 + (mm : Nat)).toNat ++ acc ++ xs.drop (((A : Nat) : Int) + 1 + (mm : Nat)).toNat)) hl3
        refine ⟨_, _, _, _, _, _, _, _, rfl, Same.mut ((e'.trans e2).trans e3) nl, upd_same, ?_⟩
        rw [laid_succ (by omega), ← hA, ← hB]
        have et : A + 1 + (chc ch n % (((B - (A + 1) : Nat) : Int) + 1)).toNat = A + 1 + mm := by
          rw [show (((B - (A + 1) : Nat) : Int) + 1) = ((B : Nat) : Int) - (((A : Nat) : Int) + 1) + 1 by omega, ← hm, Int.toNat_natCast]
        rw [et, show (((A : Nat) : Int) + 1 + (mm : Nat)).toNat = A + 1 + mm by omega]
        unfold Wd.putIn Tl.rowOf
        have hP' := p2_imm (R := SgV K) tp hP
        have hR' := p2_imm (R := SgV K) tp hR3
        rw [show (((A : Nat) : Int) + 1 + (mm : Nat)).toNat = A + 1 + mm by omega] at hP' hR'
        exact ((hR'.take _).app hP').app (hR'.drop _)
    · obtain ⟨y3, y4, y5, y6, y7, y8, y9, xs, rfl, e', hl', hR⟩ := hW
      walk_at "rd"
      exact r_tupLV hl' hR fun p H2 np e2 hp => q p H2 (e'.trans e2) hp
def spOwn (K : PySem.W.Frag) : Sp := fun vs H Q _ => ∃ (b : V) (W : List Bi), vs = [b] ∧ WdV K H b W ∧ Gw W ∧ ∀ p H', Ex H H' → TupV K (SgV K) H' (.ref p) (laid W [] W.length) → Q (.ref p) H'
theorem ok_own_keeper (T : Txt K mg) : FnOk P w K mg base CX0 3 T.a_own_keeper T.d_own_keeper ["births"] (spOwn K) := by
  refine T.F_own_keeper.ok sc_own_keeper (fun vs H Q E h => ?_) (fun cdv A outer s H vs Q E hr h => ?_)
  · obtain ⟨b, W, rfl, _⟩ := h
    rfl
  · obtain ⟨b, W, rfl, wd, gw, q⟩ := h
    refine ⟨_, (pss_one (ps_ret (pe_call (ok_laid_out T) hr (by rfl) T.g_laid_out T.F_laid_out.kp T.b_laid_out .nil pass0 (pa_cons (pv 0) (pa_cons (pe_tup pa_nil) pa_nil))))), ?_⟩
    walk_at "rd"
    refine r_small nsz fun p1 n1 => ?_
    obtain ⟨H1, k1, e1, h1⟩ := nT K (R := NumV) (l := []) n1 .nil
    rw [← k1]
    walk_at "rd"
    exact ⟨b, _, W, [], rfl, imm (R := WdV K) (.ex e1) wd, gw, h1, fun p H2 e2 hp => q p H2 (e1.trans e2) hp⟩
end
end K23

namespace K23
open PySem PySem.Spec PyProof.Rows L2 Dk Tl
/-- one step of a reading -/
local macro_rules | `(tactic| walk_at "rd1") => `(tactic| first
  | ((with_reducible refine r_var (v := ?rv) ?rh ?_); (case rh => rfl))
  | with_reducible refine r_c ?_
  | with_reducible refine r_seq ?_
  | with_reducible refine r_asg ?_
  | with_reducible refine r_par ?_
  | with_reducible refine r_gname ?_
  | with_reducible refine r_op ?_
  | with_reducible refine r_forLo ?_
  | with_reducible refine r_forTo ?_
  | with_reducible refine r_forSo ?_
  | with_reducible refine r_forRo ?_
  | with_reducible refine r_forRvo ?_
  | with_reducible refine r_forZo ?_
  | with_reducible refine r_revS ?_
  | with_reducible refine r_lcRo ?_
  | with_reducible refine r_lcLo ?_
  | with_reducible refine r_yes ?_
  | with_reducible refine r_callK0 ?_
  | with_reducible refine r_break ?_
  | with_reducible refine r_forR2o ?_
  | with_reducible refine r_forEo ?_
  | with_reducible refine r_forESo ?_
  | with_reducible refine r_xfo ?_
  | with_reducible refine r_noP ?_
  | with_reducible refine r_part ?_
  | with_reducible refine r_pI ?_
  | with_reducible refine r_gcons ?_
  | with_reducible refine r_gnil ?_
  | with_reducible refine r_mkO ?_
  | with_reducible refine r_un ?_
  | with_reducible refine r_addI ?_
  | with_reducible refine r_I0 ?_
  | with_reducible refine r_U ?_
  | with_reducible refine r_cons ?_
  | with_reducible refine r_nil ?_
  | with_reducible refine r_CB ?_
  | with_reducible refine r_call ?_
  | with_reducible refine r_callS ?_
  | with_reducible refine r_int ?_
  | with_reducible refine r_max ?_
  | with_reducible refine r_min ?_
  | with_reducible refine r_test ?_
  | with_reducible refine r_B ?_
  | with_reducible refine r_blv ?_
  | with_reducible refine r_and ?_
  | with_reducible refine r_or ?_
  | with_reducible refine r_not ?_
  | with_reducible refine r_andV ?_
  | with_reducible refine r_orV ?_
  | with_reducible refine r_notV ?_
  | with_reducible refine r_ifE ?_
  | with_reducible refine r_ifS ?_
  | with_reducible refine r_ret ?_
  | with_reducible refine r_retN ?_
  | with_reducible refine r_drop ?_
  | with_reducible refine r_next ?_
  | with_reducible refine r_sl ?_
  | with_reducible refine r_gsub ?_
  | with_reducible refine r_bm ?_
  | with_reducible refine r_tup ?_
  | with_reducible refine r_lst ?_
  | with_reducible refine r_isN ?_
  | with_reducible refine r_notN ?_
  | with_reducible refine r_chain ?_
  | with_reducible refine r_lcEio ?_
  | with_reducible refine r_forEi ?_
  | with_reducible refine r_lcTo ?_
  | with_reducible refine r_m1 ?_
  | with_reducible refine r_dget ?_
  | with_reducible refine r_din ?_
  | with_reducible refine r_dnotin ?_
  | with_reducible refine r_starC ?_
  | with_reducible refine r_callKS ?_
  | with_reducible refine r_itt ?_
  | with_reducible refine r_iff ?_
  | with_reducible refine r_ittN ?_
  | with_reducible refine r_iffN ?_
  | ((with_reducible refine r_ittD ?rh ?_); (case rh => rfl))
  | ((with_reducible refine r_iffD ?rh ?_); (case rh => rfl))
  | ((with_reducible refine r_modP ?rh ?_); (case rh => decide))
  | ((with_reducible refine r_eq ?rh ?_); (case rh => rfl))
  | ((with_reducible refine r_eqP ?rh ?_); (case rh => rfl))
  | ((with_reducible refine r_ne ?rh ?_); (case rh => rfl)))
local macro_rules | `(tactic| walk_at "rd") => `(tactic| repeat walk_at "rd1")
local macro_rules | `(tactic| walk_at "isi") => `(tactic| first | refine r_isi (b := true) (by assumption) (by decide +kernel) ?_ | refine r_isi (b := false) (by assumption) (by decide +kernel) ?_)
local macro_rules | `(tactic| walk_at "rs1") => `(tactic| first
  | with_reducible refine r_seq ?_
  | with_reducible refine r_asg ?_
  | with_reducible refine r_gname ?_
  | with_reducible refine r_ret ?_)
local macro_rules | `(tactic| walk_at "rs") => `(tactic| repeat walk_at "rs1")

open Wd
/-! ### the same data -/
def SmB (F : Prop) (S D : V → V → Prop) (K : PySem.W.Frag) (H : Hp) (v u : V) : Prop := (v = .non ∧ u = .non) ∨ (∃ b, v = .bl b ∧ u = .bl b) ∨ (∃ i, v = .int i ∧ u = .int i) ∨ (∃ z, v = .str z ∧ u = .str z) ∨
    (∃ p q xs ys, v = .ref p ∧ u = .ref q ∧ Tu K H p xs ∧ Tu K H q ys ∧ xs.length ≤ 1000 ∧ P2 S xs ys) ∨
    (∃ p q xs ys, v = .ref p ∧ u = .ref q ∧ H p = some (.lst xs) ∧ H q = some (.lst ys) ∧ xs.length ≤ 1000 ∧ P2 S xs ys) ∨
    ∃ p q, ∃ kvs kus : List (Key × V), F ∧ v = .ref p ∧ u = .ref q ∧ H p = some (.dK kvs) ∧ H q = some (.dK kus) ∧ kvs.length ≤ 300 ∧ P2 (fun a b => a.1 = b.1 ∧ D a.2 b.2) kvs kus
def Sm (K : PySem.W.Frag) (H : Hp) : Nat → V → V → Prop
  | 0 => fun _ _ => False
  | 1 => SmB False (fun _ _ => False) (fun _ _ => False) K H
  | 2 => SmB False (Sm K H 1) (fun _ _ => False) K H
  | d + 3 => SmB True (Sm K H (d + 2)) (Sm K H d) K H
def Dd (K : PySem.W.Frag) (H : Hp) : Nat → V → V → Prop
  | 0 => fun _ _ => False
  | 1 => fun _ _ => False
  | d + 2 => Sm K H d
def Fd : Nat → Prop
  | 0 => False
  | 1 => False
  | _ + 2 => True
theorem sm_eq {K : PySem.W.Frag} {H : Hp} : ∀ d, Sm K H (d + 1) = SmB (Fd d) (Sm K H d) (Dd K H d) K H
  | 0 => rfl
  | 1 => rfl
  | d + 2 => rfl
theorem sm_key {K : PySem.W.Frag} {H : Hp} {d : Nat} (k : Key) : Sm K H (d + 1) (kV k) (kV k) := by
  rw [sm_eq]
  cases k with
  | inl i => exact .inr (.inr (.inl ⟨i, rfl, rfl⟩))
  | inr z => exact .inr (.inr (.inr (.inl ⟨z, rfl, rfl⟩)))
theorem SmB.imp {F F' : Prop} {S D S' D' : V → V → Prop} {K : PySem.W.Frag} {H H' : Hp} {v u : V} (e : Ex H H') (hf : F → F') (hs : ∀ a b, S a b → S' a b) (hd : ∀ a b, D a b → D' a b) (h : SmB F S D K H v u) : SmB F' S' D' K H' v u := by
  rcases h with h | h | h | h | ⟨p, q, xs, ys, h1, h2, h3, h4, h5, h6⟩ | ⟨p, q, xs, ys, h1, h2, h3, h4, h5, h6⟩ | ⟨p, q, xs, ys, f, h1, h2, h3, h4, h5, h6⟩
  · exact .inl h
  · exact .inr (.inl h)
  · exact .inr (.inr (.inl h))
  · exact .inr (.inr (.inr (.inl h)))
  · exact .inr (.inr (.inr (.inr (.inl ⟨p, q, xs, ys, h1, h2, h3.up e, h4.up e, h5, h6.imp hs⟩))))
  · exact .inr (.inr (.inr (.inr (.inr (.inl ⟨p, q, xs, ys, h1, h2, e _ _ h3, e _ _ h4, h5, h6.imp hs⟩)))))
  · exact .inr (.inr (.inr (.inr (.inr (.inr ⟨p, q, xs, ys, hf f, h1, h2, e _ _ h3, e _ _ h4, h5, h6.imp fun _ _ z => ⟨z.1, hd _ _ z.2⟩⟩)))))
theorem sm_up2 {K : PySem.W.Frag} {H H' : Hp} (e : Ex H H') : ∀ d, (∀ v u, Sm K H d v u → Sm K H' d v u) ∧ (∀ v u, Dd K H d v u → Dd K H' d v u) ∧ (∀ v u, Dd K H (d + 1) v u → Dd K H' (d + 1) v u)
  | 0 => ⟨fun _ _ h => h.elim, fun _ _ h => h.elim, fun _ _ h => h.elim⟩
  | d + 1 => by
    obtain ⟨i1, i2, i3⟩ := sm_up2 (K := K) e d
    exact ⟨fun v u h => by rw [sm_eq] at h ⊢; exact h.imp e id i1 i2, i3, i1⟩
theorem Sm.up {K : PySem.W.Frag} {H H' : Hp} (e : Ex H H') {d : Nat} {v u : V} (h : Sm K H d v u) : Sm K H' d v u := (sm_up2 e d).1 v u h
theorem fd_more : ∀ d, Fd d → Fd (d + 1)
  | 0, h => h.elim
  | 1, h => h.elim
  | _ + 2, _ => trivial
theorem sm_more2 {K : PySem.W.Frag} {H : Hp} : ∀ d, (∀ v u, Sm K H d v u → Sm K H (d + 1) v u) ∧ (∀ v u, Dd K H d v u → Dd K H (d + 1) v u) ∧ (∀ v u, Dd K H (d + 1) v u → Dd K H (d + 2) v u)
  | 0 => ⟨fun _ _ h => h.elim, fun _ _ h => h.elim, fun _ _ h => h.elim⟩
  | d + 1 => by
    obtain ⟨i1, i2, i3⟩ := sm_more2 (K := K) (H := H) d
    exact ⟨fun v u h => by rw [sm_eq] at h ⊢; exact h.imp (Same.refl H) (fd_more d) i1 i2, i3, i1⟩
theorem Sm.more {K : PySem.W.Frag} {H : Hp} {d : Nat} {v u : V} (h : Sm K H d v u) : Sm K H (d + 1) v u := (sm_more2 d).1 v u h
theorem Sm.le {K : PySem.W.Frag} {H : Hp} {d : Nat} {v u : V} (h : Sm K H d v u) : ∀ {k : Nat}, d ≤ k → Sm K H k v u := fun {k} hk => by
  induction hk with
  | refl => exact h
  | step _ ih => exact ih.more
def tyT {K : PySem.W.Frag} {H : Hp} {p : Addr} {xs : List V} (h : Tu K H p xs) : TyX K H (.ref p) (.type "tuple") := by
  rcases h with h | ⟨o, its, n, h1, h2, _⟩
  · exact .base (.tup h)
  · exact .kTuple h1 h2
section
variable {P : Program} {w : World} {K : PySem.W.Frag} {mg : Str → Option Value} {base : Heap}
def spSame (K : PySem.W.Frag) (d : Nat) : Sp := fun vs H Q _ => ∃ v u, vs = [v, u] ∧ Sm K H d v u ∧ ∀ H', Ex H H' → Q (.bl true) H'
set_option maxHeartbeats 16000000 in
theorem ok_same (T : Txt K mg) : ∀ d, FnOk P w K mg base CX0 d T.a_law_same T.d_law_same ["_law_a", "_law_b"] (spSame K d) := by
  intro d
  induction d with
  | zero => exact ⟨fun vs H Q E h => by
      obtain ⟨_, _, _, h, _⟩ := h
      exact h.elim, fun A outer s H args us vs Q E _ _ _ _ h => by
      obtain ⟨_, _, _, h, _⟩ := h
      exact h.elim⟩
  | succ d ih =>
    have ok_law_same : Txt K mg → FnOk P w K mg base CX0 d T.a_law_same T.d_law_same ["_law_a", "_law_b"] (spSame K d) := fun _ => ih
    refine T.F_law_same.ok sc_law_same (fun vs H Q E h => ?_) (fun cdv A outer s H vs Q E hr h => ?_)
    · obtain ⟨v, u, rfl, _⟩ := h
      rfl
    · obtain ⟨v, u, rfl, h, q⟩ := h
      have hr1 := hr
      refine ⟨_, (pss_cons (ps_if (PW.pt (pw_or (pt_cmpR op_isU (pv 0) pe_non (nomark _)) (pw_or1 (pt_cmpR op_isU (pv 1) pe_non (nomark _))))) (pss_one (ps_ret (pe_and (pe_cmpR op_isU (pv 0) pe_non (nomark _)) (pe_one (pe_cmpR op_isU (pv 1) pe_non (nomark _)))))) pss_nil)
        (pss_cons (ps_if (PW.pt (pw_or (pt_val (pe_callB call_isi (by rfl) T.n_isinstance (by decide +kernel) (pa_cons (pv 0) (pa_cons (pe_bltn (v := .ty "bool") (by rfl) T.n_bool (by decide +kernel) rfl) pa_nil)))) (pw_or1 (pt_val (pe_callB call_isi (by rfl) T.n_isinstance (by decide +kernel) (pa_cons (pv 1) (pa_cons (pe_bltn (v := .ty "bool") (by rfl) T.n_bool (by decide +kernel) rfl) pa_nil))))))) (pss_one (ps_ret (pe_and (pe_callB call_isi (by rfl) T.n_isinstance (by decide +kernel) (pa_cons (pv 0) (pa_cons (pe_bltn (v := .ty "bool") (by rfl) T.n_bool (by decide +kernel) rfl) pa_nil))) (pe_and (pe_callB call_isi (by rfl) T.n_isinstance (by decide +kernel) (pa_cons (pv 1) (pa_cons (pe_bltn (v := .ty "bool") (by rfl) T.n_bool (by decide +kernel) rfl) pa_nil))) (pe_one (pe_cmpR (op_eqU hr.units) (pv 0) (pv 1) (nomark _))))))) pss_nil)
        (pss_cons (ps_if (PW.pt (pw_or (pt_val (pe_callB call_isi (by rfl) T.n_isinstance (by decide +kernel) (pa_cons (pv 0) (pa_cons (pe_bltn (v := .ty "int") (by rfl) T.n_int (by decide +kernel) rfl) pa_nil)))) (pw_or1 (pt_val (pe_callB call_isi (by rfl) T.n_isinstance (by decide +kernel) (pa_cons (pv 1) (pa_cons (pe_bltn (v := .ty "int") (by rfl) T.n_int (by decide +kernel) rfl) pa_nil))))))) (pss_one (ps_ret (pe_and (pe_callB call_isi (by rfl) T.n_isinstance (by decide +kernel) (pa_cons (pv 0) (pa_cons (pe_bltn (v := .ty "int") (by rfl) T.n_int (by decide +kernel) rfl) pa_nil))) (pe_and (pe_callB call_isi (by rfl) T.n_isinstance (by decide +kernel) (pa_cons (pv 1) (pa_cons (pe_bltn (v := .ty "int") (by rfl) T.n_int (by decide +kernel) rfl) pa_nil))) (pe_one (pe_cmpR (op_eqU hr.units) (pv 0) (pv 1) (nomark _))))))) pss_nil)
        (pss_cons (ps_if (PW.pt (pw_or (pt_val (pe_callB call_isi (by rfl) T.n_isinstance (by decide +kernel) (pa_cons (pv 0) (pa_cons (pe_bltn (v := .ty "str") (by rfl) T.n_str (by decide +kernel) rfl) pa_nil)))) (pw_or1 (pt_val (pe_callB call_isi (by rfl) T.n_isinstance (by decide +kernel) (pa_cons (pv 1) (pa_cons (pe_bltn (v := .ty "str") (by rfl) T.n_str (by decide +kernel) rfl) pa_nil))))))) (pss_one (ps_ret (pe_and (pe_callB call_isi (by rfl) T.n_isinstance (by decide +kernel) (pa_cons (pv 0) (pa_cons (pe_bltn (v := .ty "str") (by rfl) T.n_str (by decide +kernel) rfl) pa_nil))) (pe_and (pe_callB call_isi (by rfl) T.n_isinstance (by decide +kernel) (pa_cons (pv 1) (pa_cons (pe_bltn (v := .ty "str") (by rfl) T.n_str (by decide +kernel) rfl) pa_nil))) (pe_one (pe_cmpR (op_eqU hr.units) (pv 0) (pv 1) (nomark _))))))) pss_nil)
        (pss_cons (ps_if (PW.pt (pw_or (pt_val (pe_callB call_isi (by rfl) T.n_isinstance (by decide +kernel) (pa_cons (pv 0) (pa_cons (pe_bltn (v := .ty "dict") (by rfl) T.n_dict (by decide +kernel) rfl) pa_nil)))) (pw_or1 (pt_val (pe_callB call_isi (by rfl) T.n_isinstance (by decide +kernel) (pa_cons (pv 1) (pa_cons (pe_bltn (v := .ty "dict") (by rfl) T.n_dict (by decide +kernel) rfl) pa_nil))))))) (pss_cons (ps_if (pt_not (PW.pt (pw_and (pt_val (pe_callB call_isi (by rfl) T.n_isinstance (by decide +kernel) (pa_cons (pv 0) (pa_cons (pe_bltn (v := .ty "dict") (by rfl) T.n_dict (by decide +kernel) rfl) pa_nil)))) (pw_and1 (pt_val (pe_callB call_isi (by rfl) T.n_isinstance (by decide +kernel) (pa_cons (pv 1) (pa_cons (pe_bltn (v := .ty "dict") (by rfl) T.n_dict (by decide +kernel) rfl) pa_nil)))))))) (pss_one (ps_ret pe_bl)) pss_nil)
        (pss_one (ps_ret (pe_call (ok_law_same T) hr1 (by rfl) T.g_law_same T.F_law_same.kp T.b_law_same .nil pass0 (pa_cons (LiI.pe_listItems rfl (pv 0) (by rfl) T.n_list (by decide +kernel)) (pa_cons (LiI.pe_listItems rfl (pv 1) (by rfl) T.n_list (by decide +kernel)) pa_nil)))))) pss_nil)
        (pss_cons (ps_if (PW.pt (pw_or (pt_cmpR (op_neU hr.units) (pe_callB call_isi (by rfl) T.n_isinstance (by decide +kernel) (pa_cons (pv 0) (pa_cons (pe_bltn (v := .ty "tuple") (by rfl) T.n_tuple (by decide +kernel) rfl) pa_nil))) (pe_callB call_isi (by rfl) T.n_isinstance (by decide +kernel) (pa_cons (pv 1) (pa_cons (pe_bltn (v := .ty "tuple") (by rfl) T.n_tuple (by decide +kernel) rfl) pa_nil))) (nomark _)) (pw_or1 (pt_cmpR (op_neU hr.units) (pe_callB call_isi (by rfl) T.n_isinstance (by decide +kernel) (pa_cons (pv 0) (pa_cons (pe_bltn (v := .ty "list") (by rfl) T.n_list (by decide +kernel) rfl) pa_nil))) (pe_callB call_isi (by rfl) T.n_isinstance (by decide +kernel) (pa_cons (pv 1) (pa_cons (pe_bltn (v := .ty "list") (by rfl) T.n_list (by decide +kernel) rfl) pa_nil))) (nomark _))))) (pss_one (ps_ret pe_bl)) pss_nil)
        (pss_cons (ps_if (PW.pt (pw_or (pt_not (pt_val (pe_callB call_isiT (by rfl) T.n_isinstance (by decide +kernel) (pa_cons (pv 0) (pa_cons (pe_tup (pa_cons (pe_bltn (v := .ty "tuple") (by rfl) T.n_tuple (by decide +kernel) rfl) (pa_cons (pe_bltn (v := .ty "list") (by rfl) T.n_list (by decide +kernel) rfl) pa_nil))) pa_nil))))) (pw_or1 (pt_cmpR (op_neU hr.units) (pe_callB call_lenU (by rfl) T.n_len (by decide +kernel) (pa_cons (pv 0) pa_nil)) (pe_callB call_lenU (by rfl) T.n_len (by decide +kernel) (pa_cons (pv 1) pa_nil)) (nomark _))))) (pss_one (ps_ret pe_bl)) pss_nil)
        (pss_cons (ps_for PassesOwn.never rfl (pi_range1 (by rfl) T.n_range (pa_cons (pe_callB call_lenU (by rfl) T.n_len (by decide +kernel) (pa_cons (pv 0) pa_nil)) pa_nil)) (pg_name (i := 2) sc_law_same.nd rfl (Or.inl rfl)) (pss_one (ps_if (pt_not (pt_val (pe_call (ok_law_same T) hr1 (by rfl) T.g_law_same T.F_law_same.kp T.b_law_same .nil pass0 (pa_cons (pe_ix ix_seq (pv 0) (pv 2) (fun _ _ => rfl)) (pa_cons (pe_ix ix_seq (pv 1) (pv 2) (fun _ _ => rfl)) pa_nil))))) (pss_one (ps_ret pe_bl)) pss_nil)))
        (pss_one (ps_ret pe_bl)))))))))), ?_⟩
      rw [sm_eq] at h
      rcases h with ⟨rfl, rfl⟩ | ⟨b, rfl, rfl⟩ | ⟨i, rfl, rfl⟩ | ⟨z, rfl, rfl⟩ | ⟨p, p2, xs, ys, rfl, rfl, hp, hp2, hl, hP⟩ | ⟨p, p2, xs, ys, rfl, rfl, hp, hp2, hl, hP⟩ | ⟨p, p2, kvs, kus, hF, rfl, rfl, hp, hp2, hl, hP⟩
      · walk_at "rd"
        exact q _ (Same.refl H)
      · have ty : TyX K H (.bl b) (.type "bool") := .base (.bl b)
        walk_at "rd"
        iterate 3 (walk_at "isi"; walk_at "rd")
        rw [show decide (V.bl b = V.bl b) = true from decide_eq_true rfl]
        exact q _ (Same.refl H)
      · have ty : TyX K H (.int i) (.type "int") := .base (.int i)
        walk_at "rd"
        iterate 5 (walk_at "isi"; walk_at "rd")
        rw [show decide (V.int i = V.int i) = true from decide_eq_true rfl]
        exact q _ (Same.refl H)
      · have ty : TyX K H (.str z) (.type "str") := .base (.str z)
        walk_at "rd"
        iterate 7 (walk_at "isi"; walk_at "rd")
        rw [show decide (V.str z = V.str z) = true from decide_eq_true rfl]
        exact q _ (Same.refl H)
      · have ty : TyX K H (.ref p) (.type "tuple") := tyT hp
        have ty2 : TyX K H (.ref p2) (.type "tuple") := tyT hp2
        walk_at "rd"
        iterate 12 (walk_at "isi"; walk_at "rd")
        refine r_small nsz fun f n1 => ?_
        have e1 : Ex H (upd H f (.tup [.ty "tuple", .ty "list"])) := Same.new (Same.refl H) n1
        walk_at "rd"
        refine r_isiT2 upd_same (tyT (hp.up e1)) (b := true) (c := false) (by decide +kernel) (by decide +kernel) ?_
        walk_at "rd"
        refine r_lenT (hp.up e1).sq ?_
        walk_at "rd"
        refine r_lenT (hp2.up e1).sq ?_
        walk_at "rd"
        have el : xs.length = ys.length := hP.len
        refine r_iteN (fun hn => absurd (by rw [el]) hn) (fun _ => ?_)
        walk_at "rd"
        refine r_lenT (hp.up e1).sq ?_
        walk_at "rd"
        refine l_R (by omega) (by omega) (fun i σ H' => ∃ z, σ = [some (.ref p), some (.ref p2), z] ∧ Ex H H') ⟨none, rfl, e1⟩ (fun i σ H' hi hW => ?_) (fun σ H' hW => ?_)
        · obtain ⟨z, rfl, e⟩ := hW
          obtain ⟨x, hx⟩ : ∃ x, xs[i]? = some x := ⟨_, List.getElem?_eq_getElem (by omega)⟩
          obtain ⟨y, hy, hxy⟩ := hP.get hx
          walk_at "rd"
          refine r_ixT (hp.up e).sq (atI_nat hx) ?_
          walk_at "rd"
          refine r_ixT (hp2.up e).sq (atI_nat hy) ?_
          walk_at "rd"
          refine ⟨x, y, rfl, hxy.up e, fun H2 e2 => ?_⟩
          walk_at "rd"
          exact ⟨_, rfl, e.trans e2⟩
        · obtain ⟨z, rfl, e⟩ := hW
          walk_at "rd"
          exact q _ e
      · have ty : TyX K H (.ref p) (.type "list") := .base (.lst hp)
        have ty2 : TyX K H (.ref p2) (.type "list") := .base (.lst hp2)
        walk_at "rd"
        iterate 12 (walk_at "isi"; walk_at "rd")
        refine r_small nsz fun f n1 => ?_
        have e1 : Ex H (upd H f (.tup [.ty "tuple", .ty "list"])) := Same.new (Same.refl H) n1
        walk_at "rd"
        refine r_isiT2 upd_same (.base (.lst (e1 _ _ hp))) (b := false) (c := true) (by decide +kernel) (by decide +kernel) ?_
        walk_at "rd"
        refine r_lenL (sqL (e1 _ _ hp)) ?_
        walk_at "rd"
        refine r_lenL (sqL (e1 _ _ hp2)) ?_
        walk_at "rd"
        have el : xs.length = ys.length := hP.len
        refine r_iteN (fun hn => absurd (by rw [el]) hn) (fun _ => ?_)
        walk_at "rd"
        refine r_lenL (sqL (e1 _ _ hp)) ?_
        walk_at "rd"
        refine l_R (by omega) (by omega) (fun i σ H' => ∃ z, σ = [some (.ref p), some (.ref p2), z] ∧ Ex H H') ⟨none, rfl, e1⟩ (fun i σ H' hi hW => ?_) (fun σ H' hW => ?_)
        · obtain ⟨z, rfl, e⟩ := hW
          obtain ⟨x, hx⟩ : ∃ x, xs[i]? = some x := ⟨_, List.getElem?_eq_getElem (by omega)⟩
          obtain ⟨y, hy, hxy⟩ := hP.get hx
          walk_at "rd"
          refine r_ixL (sqL (e _ _ hp)) (atI_nat hx) ?_
          walk_at "rd"
          refine r_ixL (sqL (e _ _ hp2)) (atI_nat hy) ?_
          walk_at "rd"
          refine ⟨x, y, rfl, hxy.up e, fun H2 e2 => ?_⟩
          walk_at "rd"
          exact ⟨_, rfl, e.trans e2⟩
        · obtain ⟨z, rfl, e⟩ := hW
          walk_at "rd"
          exact q _ e
      · have ty : TyX K H (.ref p) (.type "dict") := .base (.dK hp)
        have ty2 : TyX K H (.ref p2) (.type "dict") := .base (.dK hp2)
        walk_at "rd"
        iterate 8 (walk_at "isi"; walk_at "rd")
        refine r_isi (b := true) ty2 (by decide +kernel) ?_
        refine ⟨true, rfl, ?_⟩
        walk_at "rd"
        refine r_items ?_
        walk_at "rd"
        refine ⟨p, kvs, rfl, hp, fun H1 l1 ts1 e1 n1 nts1 nl1 hl1 hP1 => ?_⟩
        walk_at "rd"
        refine r_items ?_
        walk_at "rd"
        refine ⟨p2, kus, rfl, e1 _ _ hp2, fun H2 l2 ts2 e2 n2 nts2 nl2 hl2 hP2 => ?_⟩
        walk_at "rd"
        refine ⟨_, _, rfl, ?_, fun H3 e3 => ?_⟩
        · obtain ⟨d, rfl⟩ : ∃ d', d = d' + 2 := by
            cases d with
            | zero => exact hF.elim
            | succ d => cases d with
              | zero => exact hF.elim
              | succ d => exact ⟨d, rfl⟩
          have hP : P2 (fun a b => a.1 = b.1 ∧ Sm K H d a.2 b.2) kvs kus := hP
          have l12 := hP.len
          have lt1 : ts1.length = kvs.length := Paired.length hP1
          refine (sm_eq (d + 1)).symm ▸ ?_
          refine .inr (.inr (.inr (.inr (.inr (.inl ⟨l1, l2, _, _, rfl, rfl, e2 _ _ hl1, hl2, by rw [List.length_map]; omega, ?_⟩)))))
          have key : ∀ {ts1 ts2 : List Addr} {kvs kus : List (Key × V)}, Paired (fun (t : Addr) (q : Key × V) => H1 t = some (.tup [kV q.1, q.2])) ts1 kvs → Paired (fun (t : Addr) (q : Key × V) => H2 t = some (.tup [kV q.1, q.2])) ts2 kus → P2 (fun a b => a.1 = b.1 ∧ Sm K H d a.2 b.2) kvs kus → P2 (Sm K H2 (d + 1)) (ts1.map V.ref) (ts2.map V.ref) := by
            intro ts1 ts2 kvs kus g1
            induction g1 generalizing ts2 kus with
            | nil =>
              intro g2 g3
              cases g3
              cases g2
              exact .nil
            | cons a1 _ ih =>
              intro g2 g3
              cases g3 with
              | cons b t =>
                cases g2 with
                | cons a2 t2 =>
                  refine .cons ?_ (ih t2 t)
                  rw [sm_eq]
                  refine .inr (.inr (.inr (.inr (.inl ⟨_, _, _, _, rfl, rfl, .inl (e2 _ _ a1), .inl a2, by simp, .cons ?_ (.cons (b.2.up (Same.trans (show Ex H H1 from e1) (show Ex H1 H2 from e2))) .nil)⟩))))
                  obtain ⟨d, rfl⟩ : ∃ d', d = d' + 1 := by
                    cases d with
                    | zero => exact b.2.elim
                    | succ d => exact ⟨d, rfl⟩
                  rw [b.1]
                  exact sm_key _
          exact key hP1 hP2 hP
        · walk_at "rd"
          exact q _ (Same.trans (Same.trans (show Ex H H1 from e1) (show Ex H1 H2 from e2)) e3)
theorem ok_law_same (T : Txt K mg) : FnOk P w K mg base CX0 6 T.a_law_same T.d_law_same ["_law_a", "_law_b"] (spSame K 6) := ok_same T 6
end
end K23

namespace K23
open PySem PySem.Spec PyProof.Rows L2 Dk Tl
/-- one step of a reading -/
local macro_rules | `(tactic| walk_at "rd1") => `(tactic| first
  | ((with_reducible refine r_var (v := ?rv) ?rh ?_); (case rh => rfl))
  | with_reducible refine r_c ?_
  | with_reducible refine r_seq ?_
  | with_reducible refine r_asg ?_
  | with_reducible refine r_par ?_
  | with_reducible refine r_gname ?_
  | with_reducible refine r_op ?_
  | with_reducible refine r_forLo ?_
  | with_reducible refine r_forTo ?_
  | with_reducible refine r_forSo ?_
  | with_reducible refine r_forRo ?_
  | with_reducible refine r_forRvo ?_
  | with_reducible refine r_forZo ?_
  | with_reducible refine r_revS ?_
  | with_reducible refine r_lcRo ?_
  | with_reducible refine r_lcLo ?_
  | with_reducible refine r_yes ?_
  | with_reducible refine r_callK0 ?_
  | with_reducible refine r_break ?_
  | with_reducible refine r_forR2o ?_
  | with_reducible refine r_forEo ?_
  | with_reducible refine r_forESo ?_
  | with_reducible refine r_xfo ?_
  | with_reducible refine r_noP ?_
  | with_reducible refine r_part ?_
  | with_reducible refine r_pI ?_
  | with_reducible refine r_gcons ?_
  | with_reducible refine r_gnil ?_
  | with_reducible refine r_mkO ?_
  | with_reducible refine r_un ?_
  | with_reducible refine r_addI ?_
  | with_reducible refine r_I0 ?_
  | with_reducible refine r_U ?_
  | with_reducible refine r_cons ?_
  | with_reducible refine r_nil ?_
  | with_reducible refine r_CB ?_
  | with_reducible refine r_call ?_
  | with_reducible refine r_callS ?_
  | with_reducible refine r_int ?_
  | with_reducible refine r_max ?_
  | with_reducible refine r_min ?_
  | with_reducible refine r_test ?_
  | with_reducible refine r_B ?_
  | with_reducible refine r_blv ?_
  | with_reducible refine r_and ?_
  | with_reducible refine r_or ?_
  | with_reducible refine r_not ?_
  | with_reducible refine r_andV ?_
  | with_reducible refine r_orV ?_
  | with_reducible refine r_notV ?_
  | with_reducible refine r_ifE ?_
  | with_reducible refine r_ifS ?_
  | with_reducible refine r_ret ?_
  | with_reducible refine r_retN ?_
  | with_reducible refine r_drop ?_
  | with_reducible refine r_next ?_
  | with_reducible refine r_sl ?_
  | with_reducible refine r_gsub ?_
  | with_reducible refine r_bm ?_
  | with_reducible refine r_tup ?_
  | with_reducible refine r_lst ?_
  | with_reducible refine r_isN ?_
  | with_reducible refine r_notN ?_
  | with_reducible refine r_chain ?_
  | with_reducible refine r_lcEio ?_
  | with_reducible refine r_forEi ?_
  | with_reducible refine r_lcTo ?_
  | with_reducible refine r_m1 ?_
  | with_reducible refine r_dget ?_
  | with_reducible refine r_din ?_
  | with_reducible refine r_dnotin ?_
  | with_reducible refine r_starC ?_
  | with_reducible refine r_callKS ?_
  | with_reducible refine r_itt ?_
  | with_reducible refine r_iff ?_
  | with_reducible refine r_ittN ?_
  | with_reducible refine r_iffN ?_
  | ((with_reducible refine r_ittD ?rh ?_); (case rh => rfl))
  | ((with_reducible refine r_iffD ?rh ?_); (case rh => rfl))
  | ((with_reducible refine r_modP ?rh ?_); (case rh => decide))
  | ((with_reducible refine r_eq ?rh ?_); (case rh => rfl))
  | ((with_reducible refine r_eqP ?rh ?_); (case rh => rfl))
  | ((with_reducible refine r_ne ?rh ?_); (case rh => rfl)))
local macro_rules | `(tactic| walk_at "rd") => `(tactic| repeat walk_at "rd1")
local macro_rules | `(tactic| walk_at "isi") => `(tactic| first | refine r_isi (b := true) (by assumption) (by decide +kernel) ?_ | refine r_isi (b := false) (by assumption) (by decide +kernel) ?_)
local macro_rules | `(tactic| walk_at "rs1") => `(tactic| first
  | with_reducible refine r_seq ?_
  | with_reducible refine r_asg ?_
  | with_reducible refine r_gname ?_
  | with_reducible refine r_ret ?_)
local macro_rules | `(tactic| walk_at "rs") => `(tactic| repeat walk_at "rs1")

section
variable {P : Program} {w : World} {K : PySem.W.Frag} {mg : Str → Option Value} {base : Heap}
theorem ok_law_draws (T : Txt K mg) : FnOk P w K mg base CX0 1 T.a_law_draws T.d_law_draws ["_law_script"] (spDraws K) := by
  refine T.F_law_draws.ok sc_law_draws (fun vs H Q E h => ?_) (fun cdv A outer s H vs Q E hr h => ?_)
  · obtain ⟨a, ns, rfl, _⟩ := h
    rfl
  · obtain ⟨a, ns, rfl, hS, hlen, q⟩ := h
    refine ⟨_, (pss_cons (ps_set (i := 1) sc_law_draws.nd rfl (Or.inl rfl) pe_int)
        (pss_cons (ps_set (i := 2) sc_law_draws.nd rfl (Or.inl rfl) (pe_lst pa_nil))
        (pss_cons (ps_for PassesOwn.never rfl (pi_list (pv 0)) (pg_name (i := 3) sc_law_draws.nd rfl (Or.inl rfl)) (pss_cons (ps_set (i := 4) sc_law_draws.nd rfl (Or.inl rfl) (pe_callB call_absU (by rfl) T.n_abs (by decide +kernel) (pa_cons (pv 3) pa_nil)))
        (pss_cons (ps_set (i := 1) sc_law_draws.nd rfl (Or.inl rfl) (pe_op op_modP (pe_callTy call_intU (by rfl) T.n_int (by decide +kernel) (pa_cons (pe_op op_addU (pe_op op_addU (pe_op op_addU (pe_op op_mulWW (pv 1) pe_int) (pe_op op_modP (pe_callTy call_intU (by rfl) T.n_int (by decide +kernel) (pa_cons (pv 4) pa_nil)) pe_int)) (pe_op op_mulWW pe_int (pe_callTy call_intU (by rfl) T.n_int (by decide +kernel) (pa_cons (pe_cmpR op_lt (pv 3) pe_int (nomark _)) pa_nil)))) pe_int) pa_nil)) pe_int))
        (pss_one (ps_if (pt_cmpR op_ge (pv 4) pe_int (nomark _)) (pss_one (ps_expr (pe_bm PySem.F.plainAttrs_list PySem.F.slot_list_append PySem.F.type_list_append mt_append (pv 2) (pa_cons (pv 4) pa_nil)))) pss_nil)))))
        (pss_one (ps_ret (pe_lst (pa_cons (pv 1) (pa_cons (pv 2) pa_nil)))))))), ?_⟩
    walk_at "rd"
    refine r_small nsz fun h hh => ?_
    have e0 : Ex H (upd H h (.lst [])) := Same.new (Same.refl H) hh
    walk_at "rd"
    refine l_L (SqL.up e0 hS) (fun i σ H' => ∃ z y1 y2 hs, σ = [some (.ref a), some (.int z), some (.ref h), y1, y2] ∧ 0 ≤ z ∧ z < M31 ∧ Ex H H' ∧ H' h = some (.lst (hs.map V.int)) ∧ hs.length ≤ i) ⟨_, none, none, [], rfl, by decide, by decide, e0, upd_same, Nat.le_refl _⟩ (fun i σ H' h => ?_) (fun i x σ H' hx hP => ?_) (fun σ H' hP => ?_)
    · obtain ⟨_, _, _, _, _, _, _, e, _⟩ := h
      exact SqL.up e hS
    · obtain ⟨z, y1, y2, hs, rfl, z0, z1, e, hh', hl⟩ := hP
      obtain ⟨c, hc, rfl⟩ : ∃ c, ns[i]? = some c ∧ x = V.int c := by
        rw [List.getElem?_map] at hx
        cases e : ns[i]? with
        | none => rw [e] at hx; cases hx
        | some c => rw [e] at hx; exact ⟨c, rfl, (Option.some.inj hx).symm⟩
      have hi : i < ns.length := (List.getElem?_eq_some_iff.mp hc).1
      walk_at "rd"
      refine r_abs ?_
      walk_at "rd"
      refine r_mulW (wide_mul (a := 31) (b := 33) (nat31 z0 z1) (by decide) (by decide) (by decide) (by decide)) ?_
      walk_at "rd"
      refine r_bool ?_
      refine r_mulW (wide_mul (a := 31) (b := 33) (by decide) (by split <;> decide) (by decide) (by decide) (by decide)) ?_
      walk_at "rd"
      refine r_ite (fun hb => ?_) (fun hb => ?_)
      · walk_at "rd"
        refine r_tyL (sqL hh') ?_
        walk_at "rd"
        refine r_app hh' (by rw [List.length_map]; exact Nat.lt_of_le_of_lt (show hs.length ≤ 100 by omega) (by decide)) ?_
        walk_at "rd"
        exact ⟨_, _, _, hs ++ [_], rfl, (mix31 _).1, (mix31 _).2, Same.mut e hh, by rw [upd_same, List.map_append]; rfl, by rw [List.length_append]; simp; exact hl⟩
      · walk_at "rd"
        exact ⟨_, _, _, hs, rfl, (mix31 _).1, (mix31 _).2, e, hh', by omega⟩
    · obtain ⟨z, y1, y2, hs, rfl, z0, z1, e, hh', hl⟩ := hP
      rw [List.length_map] at hl
      walk_at "rd"
      refine r_small nsz fun b hb => ?_
      have hne : b ≠ h := fun z => by rw [z, hh'] at hb; cases hb
      refine q b h _ (e.trans (Same.new (Same.refl _) hb)) (e.free hb) hh ⟨hne, z, hs, upd_same, z0, z1, by rw [upd_ne (Ne.symm hne)]; exact hh', by omega⟩
theorem ok_law_pick (T : Txt K mg) : FnOk P w K mg base CX0 1 T.a_law_pick T.d_law_pick ["_law_box", "_law_many"] spPick := by
  refine T.F_law_pick.ok sc_law_pick (fun vs H Q E h => ?_) (fun cdv A outer s H vs Q E hr h => ?_)
  · obtain ⟨b, h, n, rfl, _⟩ := h
    rfl
  · obtain ⟨b, h, n, rfl, ⟨ne, z, ns, hb, z0, z1, hh, hl⟩, n0, n1, q⟩ := h
    refine ⟨_, (pss_cons (ps_set (i := 2) sc_law_pick.nd rfl (Or.inl rfl) (pe_ix ix_seq (pv 0) pe_int (fun _ _ => rfl)))
        (pss_cons (ps_if (pt_cmpR op_gt (pe_callB call_lenU (by rfl) T.n_len (by decide +kernel) (pa_cons (pv 2) pa_nil)) pe_int (nomark _)) (pss_cons (ps_set (i := 3) sc_law_pick.nd rfl (Or.inl rfl) (pe_ix ix_seq (pv 2) pe_int (fun _ _ => rfl)))
        (pss_cons (ps_asg (pe_op op_divW (pv 3) (pv 1)) (pg_sub (pv 2) pe_int set_list))
        (Evl.pss_cut (ps_if (pt_cmpR (op_eqU hr.units) (pe_ix ix_seq (pv 2) pe_int (fun _ _ => rfl)) pe_int (nomark _)) (pss_one (ps_expr (pe_bm PySem.F.plainAttrs_list PySem.F.slot_list_pop PySem.F.type_list_pop mt_popAt (pv 2) (pa_cons pe_int pa_nil)))) pss_nil)
        (pss_one (ps_ret (pe_op op_modP (pe_callTy call_intU (by rfl) T.n_int (by decide +kernel) (pa_cons (pv 3) pa_nil)) (pv 1))))))) pss_nil)
        (pss_cons (ps_asg (pe_op op_modP (pe_callTy call_intU (by rfl) T.n_int (by decide +kernel) (pa_cons (pe_op op_addU (pe_op op_mulWW (pe_ix ix_seq (pv 0) pe_int (fun _ _ => rfl)) pe_int) pe_int) pa_nil)) pe_int) (pg_sub (pv 0) pe_int set_list))
        (pss_cons (ps_set (i := 4) sc_law_pick.nd rfl (Or.inl rfl) (pe_op op_modP (pe_callTy call_intU (by rfl) T.n_int (by decide +kernel) (pa_cons (pe_op op_mulWW (pe_ix ix_seq (pv 0) pe_int (fun _ _ => rfl)) pe_int) pa_nil)) pe_int))
        (pss_one (ps_ret (pe_op op_modP (pe_callTy call_intU (by rfl) T.n_int (by decide +kernel) (pa_cons (pe_op op_divW (pv 4) pe_int) pa_nil)) (pv 1)))))))), ?_⟩
    walk_at "rd"
    refine r_ixL (sqL hb) (atI_nat (j := 1) rfl) ?_
    walk_at "rd"
    refine r_lenL (sqL hh) ?_
    walk_at "rd"
    have w11 : n.natAbs < 2 ^ 11 := by
      have e : (2 : Nat) ^ 11 = 2048 := by decide
      omega
    have wd : CDivW (0 : Int) n := wide_div (b := 11) n0 w11 (by decide) (by decide)
    cases ns with
    | cons c ns =>
      refine r_ite (fun _ => ?_) (fun hn => absurd (by simp) hn)
      walk_at "rd"
      refine r_ixL (sqL hh) (atI_nat (j := 0) rfl) ?_
      walk_at "rd"
      refine r_divW ⟨n0, wd.2⟩ ?_
      walk_at "rd"
      refine r_setL hh (n := 0) (ixN_nat (Int.le_refl 0) (by rw [List.length_map, List.length_cons]; omega)) ?_
      walk_at "rs"
      have D1 : ∀ (ms : List Int), ms.length ≤ 63 → ∀ H1, H1 b = some (.lst [.int z, .ref h]) → H1 h = some (.lst (ms.map V.int)) → (∀ x o, x ≠ b → x ≠ h → H x = some o → H1 x = some o) → Dr2 b h H H1 := fun ms hm H1 e1 e2 e3 => ⟨e3, ne, z, ms, e1, z0, z1, e2, hm⟩
      refine ⟨fun σ H1 => σ = [some (.ref b), some (.int n), some (.ref h), some (.int c), none] ∧ Dr2 b h H H1, ?_, ?_⟩
      · walk_at "rd"
        refine r_ixL (sqL upd_same) (atI_nat (j := 0) rfl) ?_
        walk_at "rd"
        refine r_ite (fun h0 => ?_) (fun h0 => ?_)
        · walk_at "rd"
          refine r_tyL (sqL upd_same) ?_
          walk_at "rd"
          refine r_pop0 upd_same ?_
          walk_at "rd"
          refine ⟨rfl, D1 ns (by simp at hl; omega) _ ?_ ?_ ?_⟩
          · rw [upd_ne ne, upd_ne ne]; exact hb
          · rw [upd_same]
          · intro x o h1 h2 e
            rw [upd_ne h2, upd_ne h2]
            exact e
        · walk_at "rd"
          refine ⟨rfl, D1 (c / n :: ns) (by simpa using hl) _ ?_ ?_ ?_⟩
          · rw [upd_ne ne]; exact hb
          · rw [upd_same]; rfl
          · intro x o h1 h2 e
            rw [upd_ne h2]
            exact e
      · rintro σ H1 ⟨rfl, D⟩
        walk_at "rd"
        refine r_modP n0 ?_
        exact q _ _ (Int.emod_nonneg _ (by omega)) (Int.emod_lt_of_pos _ n0) D
    | nil =>
      refine r_ite (fun hn => absurd hn (by simp)) (fun _ => ?_)
      walk_at "rd"
      refine r_ixL (sqL hb) (atI_nat (j := 0) rfl) ?_
      walk_at "rd"
      refine r_mulW (wide_mul (a := 31) (b := 33) (nat31 z0 z1) (by decide) (by decide) (by decide) (by decide)) ?_
      walk_at "rd"
      refine r_setL hb (n := 0) rfl ?_
      walk_at "rd"
      refine r_ixL (sqL upd_same) (atI_nat (j := 0) rfl) ?_
      walk_at "rd"
      refine r_mulW (wide_mul (a := 31) (b := 33) (nat31 (mix31 _).1 (mix31 _).2) (by decide) (by decide) (by decide) (by decide)) ?_
      walk_at "rd"
      refine r_divW (wide_div (b := 17) (by decide) (by decide) (by decide) (by decide)) ?_
      walk_at "rd"
      refine r_modP n0 ?_
      refine q _ _ (Int.emod_nonneg _ (by omega)) (Int.emod_lt_of_pos _ n0) ⟨fun x o h1 h2 e => by rw [upd_ne h1]; exact e, ne, _, [], upd_same, (mix31 _).1, (mix31 _).2, by rw [upd_ne (Ne.symm ne)]; exact hh, by simp⟩
theorem ab_at {z : Str} (hz : z.length ≤ 1000) {i : Int} (h0 : 0 ≤ i) (h : i < (z.length : Int)) : ∃ c, atI z.cps.toList i = some c := by
  have hl : (cs z).length = z.length := cs_len z
  have hi : i.toNat < (cs z).length := by omega
  exact ⟨(cs z)[i.toNat], at_g (by omega) (List.getElem?_eq_getElem hi)⟩
theorem join_len {ps : List Str} (h : ∀ y ∈ ps, y.length = 1) : (Txt.join "" ps).length = ps.length := by
  rw [← cs_len, cs_join, List.length_flatten]
  have e : ((ps.map cs).map List.length) = ps.map fun _ => 1 := by
    rw [List.map_map]
    exact List.map_congr_left fun y hy => by
      show (cs y).length = 1
      rw [cs_len]
      exact h y hy
  rw [e, sum_ones]
theorem sum_len {ps : List Str} (h : ∀ y ∈ ps, y.length = 1) : (ps.map (·.length)).sum = ps.length := by
  have e : (ps.map (·.length)) = ps.map fun _ => 1 := List.map_congr_left fun y hy => h y hy
  rw [e, sum_ones]
theorem ok_law_say (T : Txt K mg) : FnOk P w K mg base CX0 2 T.a_law_say T.d_law_say ["_law_box", "_law_most"] spSay := by
  refine T.F_law_say.ok sc_law_say (fun vs H Q E h => ?_) (fun cdv A outer s H vs Q E hr h => ?_)
  · obtain ⟨b, h, n, rfl, _⟩ := h
    rfl
  · obtain ⟨b, h, n, rfl, st, n0, n1, q⟩ := h
    refine ⟨_, (pss_cons (ps_set (i := 2) sc_law_say.nd rfl (Or.inr rfl) pe_str)
        (pss_cons (ps_set (i := 2) sc_law_say.nd rfl (Or.inr rfl) (pe_op op_addU (pv 2) pe_str))
        (pss_cons (ps_set (i := 3) sc_law_say.nd rfl (Or.inl rfl) (pe_op op_addU pe_int (pe_call (ok_law_pick T) hr (by rfl) T.g_law_pick T.F_law_pick.kp T.b_law_pick .nil pass0 (pa_cons (pv 0) (pa_cons (pv 1) pa_nil)))))
        (pss_cons (ps_if (pt_cmpR (op_eqU hr.units) (pe_call (ok_law_pick T) hr (by rfl) T.g_law_pick T.F_law_pick.kp T.b_law_pick .nil pass0 (pa_cons (pv 0) (pa_cons pe_int pa_nil))) pe_int (nomark _)) (pss_one (ps_ret (pe_join pe_str (pe_lc (own := [("_law_k", 4)]) (g := gName 4) rfl sc_law_say.nd (pi_range1 (by rfl) T.n_range (pa_cons (pv 3) pa_nil)) (blkOk_by (N := N_law_say) (sc := defScope s_law_say) (by decide +kernel)) (fun _ _ _ _ _ => pg_name (i := 4) sc_law_say.nd rfl (Or.inl rfl)) (fun _ _ _ _ _ => pts_nil) (fun _ _ _ _ _ => (pe_ix (k_ix (K := K) rfl) (pv 2) (pe_call (ok_law_pick T) hr (by rfl) T.g_law_pick T.F_law_pick.kp T.b_law_pick .nil pass0 (pa_cons (pv 0) (pa_cons pe_int pa_nil))) (fun _ _ => rfl))))))) pss_nil)
        (pss_one (ps_ret (pe_join pe_str (pe_lc (own := [("_law_k", 4)]) (g := gName 4) rfl sc_law_say.nd (pi_range1 (by rfl) T.n_range (pa_cons (pv 3) pa_nil)) (blkOk_by (N := N_law_say) (sc := defScope s_law_say) (by decide +kernel)) (fun _ _ _ _ _ => pg_name (i := 4) sc_law_say.nd rfl (Or.inl rfl)) (fun _ _ _ _ _ => pts_nil) (fun _ _ _ _ _ => (pe_ix (k_ix (K := K) rfl) pe_str (pe_call (ok_law_pick T) hr (by rfl) T.g_law_pick T.F_law_pick.kp T.b_law_pick .nil pass0 (pa_cons (pv 0) (pa_cons pe_int pa_nil))) (fun _ _ => rfl))))))))))), ?_⟩
    walk_at "rd"
    refine r_addS (by decide +kernel) ?_
    walk_at "rd"
    refine ⟨b, h, n, rfl, st, n0, by omega, fun d H1 d0 d1 D1 => ?_⟩
    walk_at "rd"
    refine ⟨b, h, 3, rfl, D1.st, by decide, by decide, fun e H2 e0 e1 D2 => ?_⟩
    have D := D1.trans D2
    walk_at "rd"
    refine r_ite (fun _ => ?_) (fun _ => ?_)
    · walk_at "rd"
      refine ⟨⟨_, rfl⟩, ?_⟩
      walk_at "rd"
      refine l_lcR (by omega) (by omega) (fun f i H' => ∃ ps : List Str, Dr2 b h H H' ∧ H' f = some (.lst (ps.map V.str)) ∧ ps.length = i ∧ ∀ y ∈ ps, y.length = 1) (fun f hf => ⟨[], D.new hf, upd_same, rfl, by simp⟩) (fun f i H' hf hi hP => ?_) (fun f H' hf hP => ?_)
      · obtain ⟨ps, D3, gf, hl, hy⟩ := hP
        have hf0 := D.fresh hf
        have nb := D.st.nb hf
        have nh := D.st.nh hf
        walk_at "rd"
        refine ⟨rfl, ?_⟩
        walk_at "rd"
        refine ⟨b, h, 95, rfl, D3.st, by decide, by decide, fun x H4 x0 x1 D4 => ?_⟩
        walk_at "rd"
        obtain ⟨c, hc⟩ := ab_at (z := "\n !\"#$&'()*+,-./0123456789:;<=>?@ABCDEFGHIJKLMNOPQRSTUVWXYZ[\\]^_`" ++ "abcdefghijklmnopqrstuvwxyz{|}~") (by decide +kernel) x0 (by
          have e : ("\n !\"#$&'()*+,-./0123456789:;<=>?@ABCDEFGHIJKLMNOPQRSTUVWXYZ[\\]^_`" ++ "abcdefghijklmnopqrstuvwxyz{|}~" : Str).length = 95 := by decide +kernel
          rw [e]
          exact x1)
        refine r_ixS (by decide +kernel) hc ?_
        refine ⟨ps.map V.str, D4.hh _ _ nb nh gf, by rw [List.length_map]; exact Nat.lt_of_le_of_lt (show ps.length ≤ 101 by omega) (by decide), ps ++ [⟨#[c]⟩], (D3.trans D4).mut hf0 nb nh, by rw [upd_same, List.map_append]; rfl, by rw [List.length_append, hl]; rfl, fun y hy' => ?_⟩
        rcases List.mem_append.mp hy' with h1 | h1
        · exact hy y h1
        · rw [List.mem_singleton.mp h1]; rfl
      · obtain ⟨ps, D3, gf, hl, hy⟩ := hP
        have hj := join_len hy
        refine ⟨"", f, ps, rfl, rfl, .inl (sqL gf), ?_, q _ _ (by omega) (by omega) D3⟩
        have hsum := sum_len hy
        have h5 : ("" : Str).length = 0 := rfl
        rw [h5, Nat.mul_zero, Nat.add_zero]
        omega
    · walk_at "rd"
      refine ⟨⟨_, rfl⟩, ?_⟩
      walk_at "rd"
      refine l_lcR (by omega) (by omega) (fun f i H' => ∃ ps : List Str, Dr2 b h H H' ∧ H' f = some (.lst (ps.map V.str)) ∧ ps.length = i ∧ ∀ y ∈ ps, y.length = 1) (fun f hf => ⟨[], D.new hf, upd_same, rfl, by simp⟩) (fun f i H' hf hi hP => ?_) (fun f H' hf hP => ?_)
      · obtain ⟨ps, D3, gf, hl, hy⟩ := hP
        have hf0 := D.fresh hf
        have nb := D.st.nb hf
        have nh := D.st.nh hf
        walk_at "rd"
        refine ⟨rfl, ?_⟩
        walk_at "rd"
        refine ⟨b, h, 5, rfl, D3.st, by decide, by decide, fun x H4 x0 x1 D4 => ?_⟩
        walk_at "rd"
        obtain ⟨c, hc⟩ := ab_at (z := "ab\nX ") (by decide +kernel) x0 (by
          have e : ("ab\nX " : Str).length = 5 := by decide +kernel
          rw [e]
          exact x1)
        refine r_ixS (by decide +kernel) hc ?_
        refine ⟨ps.map V.str, D4.hh _ _ nb nh gf, by rw [List.length_map]; exact Nat.lt_of_le_of_lt (show ps.length ≤ 101 by omega) (by decide), ps ++ [⟨#[c]⟩], (D3.trans D4).mut hf0 nb nh, by rw [upd_same, List.map_append]; rfl, by rw [List.length_append, hl]; rfl, fun y hy' => ?_⟩
        rcases List.mem_append.mp hy' with h1 | h1
        · exact hy y h1
        · rw [List.mem_singleton.mp h1]; rfl
      · obtain ⟨ps, D3, gf, hl, hy⟩ := hP
        have hj := join_len hy
        refine ⟨"", f, ps, rfl, rfl, .inl (sqL gf), ?_, q _ _ (by omega) (by omega) D3⟩
        have hsum := sum_len hy
        have h5 : ("" : Str).length = 0 := rfl
        rw [h5, Nat.mul_zero, Nat.add_zero]
        omega
end

end K23

namespace Tl
/-! ### meets and joins, by going down -/
section
variable (L R : Nat → Sg)
/-- the meet as the point finds it -/
inductive Mt : Sg → Sg → Sg → Prop where
  | same {x y : Sg} (h : x.1 = y.1) : Mt x y (if y.2 < x.2 then y else x)
  | rTop {x y : Sg} (h : y.1 < x.1) (a : A L R x y) : Mt x y x
  | rGo {x y m : Sg} (h : y.1 < x.1) (a : ¬ A L R x y) (t : Mt y (L x.1) m) : Mt x y m
  | lTop {x y : Sg} (h : x.1 < y.1) (a : A L R y x) : Mt x y y
  | lGo {x y m : Sg} (h : x.1 < y.1) (a : ¬ A L R y x) (t : Mt x (L y.1) m) : Mt x y m
inductive Jn : Sg → Sg → Sg → Prop where
  | same {x y : Sg} (h : x.1 = y.1) : Jn x y (if x.2 < y.2 then y else x)
  | rTop {x y : Sg} (h : y.1 < x.1) (a : A L R y x) : Jn x y x
  | rGo {x y m : Sg} (h : y.1 < x.1) (a : ¬ A L R y x) (t : Jn y (R x.1) m) : Jn x y m
  | lTop {x y : Sg} (h : x.1 < y.1) (a : A L R x y) : Jn x y y
  | lGo {x y m : Sg} (h : x.1 < y.1) (a : ¬ A L R x y) (t : Jn x (R y.1) m) : Jn x y m
end
section
variable {L R : Nat → Sg} {n : Nat} {x y z m : Sg}
theorem E.iff_A' {x y : Sg} (h : x.1 ≠ y.1) : E L R x y ↔ A L R x y := ⟨fun e => e.elim (fun z => absurd (congrArg Prod.fst z) h) id, .inr⟩
theorem E.iff_le' {x y : Sg} (h : x.1 = y.1) : E L R x y ↔ x.2 ≤ y.2 := by
  unfold E
  rw [A.same_iff h]
  constructor
  · rintro (rfl | h) <;> omega
  · intro h2
    by_cases e : x.2 = y.2
    · exact .inl (Prod.ext h e)
    · exact .inr (by omega)
theorem Bs.etr (b : Bs L R n) (hx : x.1 < n) (hy : y.1 < n) (hz : z.1 < n) (e1 : E L R x y) (e2 : E L R y z) : E L R x z := by
  rcases e1 with rfl | e1
  · exact e2
  · rcases e2 with rfl | e2
    · exact .inr e1
    · exact .inr (b.tr hx hy hz e1 e2)
theorem Bs.anti (b : Bs L R n) (hx : x.1 < n) (hy : y.1 < n) (e1 : E L R x y) (e2 : E L R y x) : x = y := by
  rcases e1 with rfl | e1
  · rfl
  · rcases e2 with rfl | e2
    · rfl
    · exact absurd (b.tr hx hy hx e1 e2) A.irr
/-- what is at or ahead of both lies at or ahead of the left of the greater chunk, where that chunk's sign is not ahead of the other one -/
theorem Bs.down (b : Bs L R n) (hx : x.1 < n) (hy : y.1 < n) (h : x.1 < y.1) (na : ¬ A L R y x) : ∀ k, ∀ z : Sg, z.1 < k → z.1 < n → E L R z x → E L R z y → E L R z (L y.1) := by
  intro k
  induction k with
  | zero => intro z hz; omega
  | succ k ih =>
    intro z hk hz e1 e2
    rcases Nat.lt_trichotomy z.1 y.1 with hzy | hzy | hzy
    · exact (A.l_iff hzy).mp ((E.iff_A' (by omega)).mp e2)
    · exfalso
      have a1 := (E.iff_A' (x := z) (y := x) (by omega)).mp e1
      have e3 := (A.r_iff (by omega)).mp a1
      rw [hzy] at e3
      exact na ((A.r_iff h).mpr e3)
    · have hr := b.r z.1 (by omega) hz
      have hl := b.l y.1 (by omega) hy
      have e3 := (A.r_iff (by omega)).mp ((E.iff_A' (x := z) (y := x) (by omega)).mp e1)
      have e4 := (A.r_iff (by omega)).mp ((E.iff_A' (x := z) (y := y) (by omega)).mp e2)
      have e5 := ih (R z.1) (by omega) (by omega) e3 e4
      exact .inr ((A.r_iff (by omega)).mpr e5)
theorem Bs.rise (b : Bs L R n) (hx : x.1 < n) (hy : y.1 < n) (h : x.1 < y.1) (na : ¬ A L R x y) : ∀ k, ∀ z : Sg, z.1 < k → z.1 < n → E L R x z → E L R y z → E L R (R y.1) z := by
  intro k
  induction k with
  | zero => intro z hz; omega
  | succ k ih =>
    intro z hk hz e1 e2
    rcases Nat.lt_trichotomy z.1 y.1 with hzy | hzy | hzy
    · exact (A.r_iff hzy).mp ((E.iff_A' (by omega)).mp e2)
    · exfalso
      have a1 := (E.iff_A' (x := x) (y := z) (by omega)).mp e1
      have e3 := (A.l_iff (by omega)).mp a1
      rw [hzy] at e3
      exact na ((A.l_iff h).mpr e3)
    · have hl := b.l z.1 (by omega) hz
      have hr := b.r y.1 (by omega) hy
      have e3 := (A.l_iff (by omega)).mp ((E.iff_A' (x := x) (y := z) (by omega)).mp e1)
      have e4 := (A.l_iff (by omega)).mp ((E.iff_A' (x := y) (y := z) (by omega)).mp e2)
      have e5 := ih (L z.1) (by omega) (by omega) e3 e4
      exact .inr ((A.l_iff (by omega)).mpr e5)
/-- the greatest sign at or ahead of both -/
def Glb (L R : Nat → Sg) (n : Nat) (x y m : Sg) : Prop := m.1 < n ∧ E L R m x ∧ E L R m y ∧ ∀ z : Sg, z.1 < n → E L R z x → E L R z y → E L R z m
def Lub (L R : Nat → Sg) (n : Nat) (x y m : Sg) : Prop := m.1 < n ∧ E L R x m ∧ E L R y m ∧ ∀ z : Sg, z.1 < n → E L R x z → E L R y z → E L R m z
theorem Glb.comm (g : Glb L R n x y m) : Glb L R n y x m := ⟨g.1, g.2.2.1, g.2.1, fun z hz a b => g.2.2.2 z hz b a⟩
theorem Lub.comm (g : Lub L R n x y m) : Lub L R n y x m := ⟨g.1, g.2.2.1, g.2.1, fun z hz a b => g.2.2.2 z hz b a⟩
theorem Bs.left (b : Bs L R n) (hy : y.1 < n) (h0 : 0 < y.1) : E L R (L y.1) y := .inr ((A.l_iff (b.l _ h0 hy)).mpr (.inl rfl))
theorem Bs.right (b : Bs L R n) (hy : y.1 < n) (h0 : 0 < y.1) : E L R y (R y.1) := .inr ((A.r_iff (b.r _ h0 hy)).mpr (.inl rfl))
theorem Glb.go (b : Bs L R n) (hx : x.1 < n) (hy : y.1 < n) (h : x.1 < y.1) (na : ¬ A L R y x) (g : Glb L R n x (L y.1) m) : Glb L R n x y m :=
  ⟨g.1, g.2.1, b.etr g.1 (Nat.lt_trans (b.l _ (by omega) hy) hy) hy g.2.2.1 (b.left hy (by omega)), fun z hz e1 e2 => g.2.2.2 z hz e1 (b.down hx hy h na _ z (Nat.lt_succ_self _) hz e1 e2)⟩
theorem Lub.go (b : Bs L R n) (hx : x.1 < n) (hy : y.1 < n) (h : x.1 < y.1) (na : ¬ A L R x y) (g : Lub L R n x (R y.1) m) : Lub L R n x y m :=
  ⟨g.1, g.2.1, b.etr hy (Nat.lt_trans (b.r _ (by omega) hy) hy) g.1 (b.right hy (by omega)) g.2.2.1, fun z hz e1 e2 => g.2.2.2 z hz e1 (b.rise hx hy h na _ z (Nat.lt_succ_self _) hz e1 e2)⟩
theorem Mt.glb (b : Bs L R n) (t : Mt L R x y m) : x.1 < n → y.1 < n → Glb L R n x y m := by
  induction t with
  | @same x y h =>
    intro hx hy
    by_cases c : y.2 < x.2
    · rw [if_pos c]
      exact ⟨hy, .inr (.same h.symm c), .inl rfl, fun z hz _ e => e⟩
    · rw [if_neg c]
      exact ⟨hx, .inl rfl, (E.iff_le' h).mpr (by omega), fun z hz e _ => e⟩
  | rTop h a => intro hx hy; exact ⟨hx, .inl rfl, .inr a, fun z hz e _ => e⟩
  | rGo h a t ih => intro hx hy; exact (Glb.go b hy hx h a (ih hy (Nat.lt_trans (b.l _ (by omega) hx) hx))).comm
  | lTop h a => intro hx hy; exact ⟨hy, .inr a, .inl rfl, fun z hz _ e => e⟩
  | lGo h a t ih => intro hx hy; exact Glb.go b hx hy h a (ih hx (Nat.lt_trans (b.l _ (by omega) hy) hy))
theorem Jn.lub (b : Bs L R n) (t : Jn L R x y m) : x.1 < n → y.1 < n → Lub L R n x y m := by
  induction t with
  | @same x y h =>
    intro hx hy
    by_cases c : x.2 < y.2
    · rw [if_pos c]
      exact ⟨hy, .inr (.same h c), .inl rfl, fun z hz _ e => e⟩
    · rw [if_neg c]
      exact ⟨hx, .inl rfl, (E.iff_le' h.symm).mpr (by omega), fun z hz e _ => e⟩
  | rTop h a => intro hx hy; exact ⟨hx, .inl rfl, .inr a, fun z hz e _ => e⟩
  | rGo h a t ih => intro hx hy; exact (Lub.go b hy hx h a (ih hy (Nat.lt_trans (b.r _ (by omega) hx) hx))).comm
  | lTop h a => intro hx hy; exact ⟨hy, .inr a, .inl rfl, fun z hz _ e => e⟩
  | lGo h a t ih => intro hx hy; exact Lub.go b hx hy h a (ih hx (Nat.lt_trans (b.r _ (by omega) hy) hy))
theorem Glb.uniq (b : Bs L R n) {k : Sg} (g : Glb L R n x y m) (h : Glb L R n x y k) : m = k := b.anti g.1 h.1 (h.2.2.2 m g.1 g.2.1 g.2.2.1) (g.2.2.2 k h.1 h.2.1 h.2.2.1)
theorem Lub.uniq (b : Bs L R n) {k : Sg} (g : Lub L R n x y m) (h : Lub L R n x y k) : m = k := b.anti g.1 h.1 (g.2.2.2 k h.1 h.2.1 h.2.2.1) (h.2.2.2 m g.1 g.2.1 g.2.2.1)
end
end Tl

namespace Tl
section
variable {L R L' R' : Nat → Sg} {sz : Nat → Nat} {n : Nat} {x y m : Sg}
theorem Mt.ex (w : Wv L R sz n) : ∀ k, ∀ x y : Sg, x.1 + y.1 < k → Ok sz n x → Ok sz n y → ∃ m, Mt L R x y m ∧ Ok sz n m := by
  intro k
  induction k with
  | zero => intro x y h; omega
  | succ k ih =>
    intro x y h ox oy
    rcases Nat.lt_trichotomy x.1 y.1 with c | c | c
    · by_cases a : A L R y x
      · exact ⟨y, .lTop c a, oy⟩
      · have hl := w.l y.1 (by omega) oy.1
        obtain ⟨m, h1, h2⟩ := ih x (L y.1) (by omega) ox (w.okL (by omega) oy.1)
        exact ⟨m, .lGo c a h1, h2⟩
    · refine ⟨_, .same c, ?_⟩
      split
      · exact oy
      · exact ox
    · by_cases a : A L R x y
      · exact ⟨x, .rTop c a, ox⟩
      · have hl := w.l x.1 (by omega) ox.1
        obtain ⟨m, h1, h2⟩ := ih y (L x.1) (by omega) oy (w.okL (by omega) ox.1)
        exact ⟨m, .rGo c a h1, h2⟩
theorem Jn.ex (w : Wv L R sz n) : ∀ k, ∀ x y : Sg, x.1 + y.1 < k → Ok sz n x → Ok sz n y → ∃ m, Jn L R x y m ∧ Ok sz n m := by
  intro k
  induction k with
  | zero => intro x y h; omega
  | succ k ih =>
    intro x y h ox oy
    rcases Nat.lt_trichotomy x.1 y.1 with c | c | c
    · by_cases a : A L R x y
      · exact ⟨y, .lTop c a, oy⟩
      · have hl := w.r y.1 (by omega) oy.1
        obtain ⟨m, h1, h2⟩ := ih x (R y.1) (by omega) ox (w.okR (by omega) oy.1)
        exact ⟨m, .lGo c a h1, h2⟩
    · refine ⟨_, .same c, ?_⟩
      split
      · exact oy
      · exact ox
    · by_cases a : A L R y x
      · exact ⟨x, .rTop c a, ox⟩
      · have hl := w.r x.1 (by omega) ox.1
        obtain ⟨m, h1, h2⟩ := ih y (R x.1) (by omega) oy (w.okR (by omega) ox.1)
        exact ⟨m, .rGo c a h1, h2⟩
/-- in wider births the same -/
theorem A.wide (w : Wv L R sz n) (hl : ∀ c, c < n → L c = L' c) (hr : ∀ c, c < n → R c = R' c) (hx : x.1 < n) (hy : y.1 < n) : A L R x y ↔ A L' R' x y :=
  ⟨fun a => A.congr (n := n) (fun c _ h => hl c h) (fun c _ h => hr c h) (fun c h0 h => ⟨w.l c h0 h, w.r c h0 h⟩) a hx hy,
   fun a => A.congr (n := n) (fun c _ h => (hl c h).symm) (fun c _ h => (hr c h).symm) (fun c h0 h => ⟨hl c h ▸ w.l c h0 h, hr c h ▸ w.r c h0 h⟩) a hx hy⟩
theorem Mt.wide (w : Wv L R sz n) (hl : ∀ c, c < n → L c = L' c) (hr : ∀ c, c < n → R c = R' c) (t : Mt L R x y m) : x.1 < n → y.1 < n → Mt L' R' x y m := by
  induction t with
  | same h => exact fun _ _ => .same h
  | rTop h a => exact fun hx hy => .rTop h ((A.wide w hl hr hx hy).mp a)
  | @rGo x y m h a t ih =>
    intro hx hy
    have z := w.l x.1 (by omega) hx
    exact .rGo h (fun b => a ((A.wide w hl hr hx hy).mpr b)) (hl x.1 hx ▸ ih hy (by omega))
  | lTop h a => exact fun hx hy => .lTop h ((A.wide w hl hr hy hx).mp a)
  | @lGo x y m h a t ih =>
    intro hx hy
    have z := w.l y.1 (by omega) hy
    exact .lGo h (fun b => a ((A.wide w hl hr hy hx).mpr b)) (hl y.1 hy ▸ ih hx (by omega))
theorem Jn.wide (w : Wv L R sz n) (hl : ∀ c, c < n → L c = L' c) (hr : ∀ c, c < n → R c = R' c) (t : Jn L R x y m) : x.1 < n → y.1 < n → Jn L' R' x y m := by
  induction t with
  | same h => exact fun _ _ => .same h
  | rTop h a => exact fun hx hy => .rTop h ((A.wide w hl hr hy hx).mp a)
  | @rGo x y m h a t ih =>
    intro hx hy
    have z := w.r x.1 (by omega) hx
    exact .rGo h (fun b => a ((A.wide w hl hr hy hx).mpr b)) (hr x.1 hx ▸ ih hy (by omega))
  | lTop h a => exact fun hx hy => .lTop h ((A.wide w hl hr hx hy).mp a)
  | @lGo x y m h a t ih =>
    intro hx hy
    have z := w.r y.1 (by omega) hy
    exact .lGo h (fun b => a ((A.wide w hl hr hx hy).mpr b)) (hr y.1 hy ▸ ih hx (by omega))
theorem Mt.det (b : Bs L R n) {k : Sg} (hx : x.1 < n) (hy : y.1 < n) (t : Mt L R x y m) (s : Mt L R x y k) : m = k := Glb.uniq b (t.glb b hx hy) (s.glb b hx hy)
theorem Jn.det (b : Bs L R n) {k : Sg} (hx : x.1 < n) (hy : y.1 < n) (t : Jn L R x y m) (s : Jn L R x y k) : m = k := Lub.uniq b (t.lub b hx hy) (s.lub b hx hy)
end
/-- one alone -/
theorem filter_one {p : Nat → Bool} {k : Nat} : ∀ {N : Nat}, k < N → (∀ i, i < N → (p i = true ↔ i = k)) → (List.range N).filter p = [k]
  | 0, h, _ => absurd h (Nat.not_lt_zero _)
  | N + 1, h, hp => by
    rw [List.range_succ, List.filter_append]
    by_cases c : k < N
    · rw [filter_one c fun i hi => hp i (by omega)]
      have z : p N = false := by
        rw [Bool.eq_false_iff]
        intro e
        have := (hp N (by omega)).mp e
        omega
      simp [z]
    · have e : k = N := by omega
      subst e
      have z : p k = true := (hp k (by omega)).mpr rfl
      have z2 : (List.range k).filter p = [] := List.filter_eq_nil_iff.mpr fun i hi he => by
        have h1 := List.mem_range.mp hi
        have := (hp i (by omega)).mp he
        omega
      rw [z2]
      simp [z]
/-- a mask within another one -/
theorem and_within {c d : Nat} : c &&& d = c ↔ ∀ j, c.testBit j = true → d.testBit j = true := by
  constructor
  · intro h j hj
    rw [← h, Nat.testBit_and, Bool.and_eq_true] at hj
    exact hj.2
  · intro h
    refine Nat.eq_of_testBit_eq fun j => ?_
    rw [Nat.testBit_and]
    cases hc : c.testBit j with
    | false => rfl
    | true => rw [h j hc]; rfl
end Tl

namespace Tl
section
variable {L R : Nat → Sg} {sz : Nat → Nat} {n : Nat} {x y m : Sg}
theorem Rch.end_lt {S : List (Nat × Nat)} {a b N : Nat} (h : ∀ a b, (a, b) ∈ S → b < N) (p : Rch S a b) : b < N := by
  obtain ⟨k, p⟩ := p
  induction p with
  | one h' => exact h _ _ h'
  | step h' p ih => exact ih
theorem Under.bits (w : Wv L R sz n) {T : List Nat} {r : Nat} (u : Under L R sz n T r) : ∀ a b, Bit T a b → b < off sz n :=
  fun a b h => Rch.end_lt (fun a b h => (step_lt w h).2) (u.snd a b h)
/-- a table that tells a relation of signs, without other bits -/
structure Rl (sz : Nat → Nat) (n : Nat) (M : List Nat) (r : Sg → Sg → Prop) : Prop where
  len : M.length = off sz n
  bits : ∀ a b, Bit M a b → b < off sz n
  iff : ∀ x y, Ok sz n x → Ok sz n y → (Bit M (ps sz x) (ps sz y) ↔ r x y)
theorem Tells.rl {T : List Nat} (t : Tells L R sz n T) (h : ∀ a b, Bit T a b → b < off sz n) : Rl sz n T (A L R) := ⟨t.1, h, t.2⟩
/-- the table turned -/
def Turned (T M : List Nat) : Prop := M.length = T.length ∧ ∀ k j, k < T.length → (Bit M k j ↔ j < T.length ∧ Bit T j k)
theorem Rl.turn {T M : List Nat} {r : Sg → Sg → Prop} (t : Rl sz n T r) (h : Turned T M) : Rl sz n M (fun x y => r y x) := by
  refine ⟨h.1.trans t.len, fun a b hb => ?_, fun x y ox oy => ?_⟩
  · by_cases c : a < T.length
    · have := ((h.2 a b c).mp hb).1
      have := t.len
      omega
    · exfalso
      unfold Bit at hb
      rw [List.getD_eq_getElem?_getD, List.getElem?_eq_none (by have := h.1; omega)] at hb
      simp at hb
  · have px := ps_lt ox
    have py := ps_lt oy
    rw [h.2 _ _ (by rw [t.len]; exact px), t.iff y x oy ox]
    exact ⟨fun z => z.2, fun z => ⟨by rw [t.len]; exact py, z⟩⟩
def cm (M : List Nat) (a b : Nat) : Nat := (M.getD a 0 ||| 1 <<< a) &&& (M.getD b 0 ||| 1 <<< b)
theorem bit_one {a j : Nat} : (1 <<< a).testBit j = decide (a = j) := by
  rw [Nat.one_shiftLeft, Nat.testBit_two_pow]
theorem cm_bit {M : List Nat} {a b j : Nat} : (cm M a b).testBit j = true ↔ (a = j ∨ Bit M a j) ∧ (b = j ∨ Bit M b j) := by
  unfold cm Bit
  rw [Nat.testBit_and, Nat.testBit_or, Nat.testBit_or, bit_one, bit_one]
  simp only [Bool.and_eq_true, Bool.or_eq_true, decide_eq_true_iff]
  exact and_congr or_comm or_comm
def lastb (M : List Nat) (a b k : Nat) : Bool := (cm M a b).testBit k && decide (cm M a b &&& (M.getD k 0 ||| 1 <<< k) = cm M a b)
def El (r : Sg → Sg → Prop) (x y : Sg) : Prop := x = y ∨ r x y
theorem Rl.last {M : List Nat} {r : Sg → Sg → Prop} (t : Rl sz n M r) (ox : Ok sz n x) (oy : Ok sz n y) (om : Ok sz n m)
    (anti : ∀ u v, Ok sz n u → Ok sz n v → El r u v → El r v u → u = v)
    (g1 : El r x m) (g2 : El r y m) (g3 : ∀ z, Ok sz n z → El r x z → El r y z → El r m z) : ∀ i, i < off sz n → (lastb M (ps sz x) (ps sz y) i = true ↔ i = ps sz m) := by
  have el : ∀ {u v}, Ok sz n u → Ok sz n v → ((ps sz u = ps sz v ∨ Bit M (ps sz u) (ps sz v)) ↔ El r u v) := fun {u v} ou ov => by
    rw [t.iff u v ou ov]
    exact ⟨fun z => z.imp (fun e => ps_inj ou ov e) id, fun z => z.imp (fun e => by rw [e]) id⟩
  have com : ∀ {v}, Ok sz n v → ((cm M (ps sz x) (ps sz y)).testBit (ps sz v) = true ↔ El r x v ∧ El r y v) := fun {v} ov => by
    rw [cm_bit, el ox ov, el oy ov]
  have sub : ∀ {v}, Ok sz n v → (cm M (ps sz x) (ps sz y) &&& (M.getD (ps sz v) 0 ||| 1 <<< ps sz v) = cm M (ps sz x) (ps sz y) ↔ ∀ z, Ok sz n z → El r x z → El r y z → El r v z) := fun {v} ov => by
    rw [and_within]
    constructor
    · intro h z oz e1 e2
      have b1 := h (ps sz z) ((com oz).mpr ⟨e1, e2⟩)
      rw [Nat.testBit_or, bit_one, Bool.or_eq_true, decide_eq_true_iff] at b1
      exact (el ov oz).mp (b1.symm)
    · intro h j hj
      have hjl : j < off sz n := by
        obtain ⟨h1, _⟩ := cm_bit.mp hj
        rcases h1 with h1 | h1
        · rw [← h1]; exact ps_lt ox
        · exact t.bits _ _ h1
      obtain ⟨z, oz, rfl⟩ := sign_at hjl
      obtain ⟨e1, e2⟩ := (com oz).mp hj
      rw [Nat.testBit_or, bit_one, Bool.or_eq_true, decide_eq_true_iff]
      exact ((el ov oz).mpr (h z oz e1 e2)).symm
  intro i hi
  obtain ⟨v, ov, rfl⟩ := sign_at hi
  unfold lastb
  rw [Bool.and_eq_true, decide_eq_true_iff, com ov, sub ov]
  constructor
  · rintro ⟨⟨h1, h2⟩, h3⟩
    rw [anti v m ov om (h3 m om g1 g2) (g3 v ov h1 h2)]
  · intro e
    have e' := ps_inj ov om e
    subst e'
    exact ⟨⟨g1, g2⟩, g3⟩
theorem El.symm_iff {x y : Sg} : El (fun x y => A L R y x) x y ↔ E L R y x := ⟨fun h => h.imp Eq.symm id, fun h => h.imp Eq.symm id⟩
theorem Rl.low (w : Wv L R sz n) {M : List Nat} (t : Rl sz n M fun x y => A L R y x) (ox : Ok sz n x) (oy : Ok sz n y) (om : Ok sz n m) (h : Mt L R x y m) :
    ∀ i, i < off sz n → (lastb M (ps sz x) (ps sz y) i = true ↔ i = ps sz m) := by
  have g := h.glb w.toBs ox.1 oy.1
  refine t.last ox oy om (fun u v ou ov a b => ?_) (El.symm_iff.mpr g.2.1) (El.symm_iff.mpr g.2.2.1) fun z oz a b => El.symm_iff.mpr (g.2.2.2 z oz.1 (El.symm_iff.mp a) (El.symm_iff.mp b))
  exact w.toBs.anti ou.1 ov.1 (El.symm_iff.mp b) (El.symm_iff.mp a)
theorem Rl.high (w : Wv L R sz n) {M : List Nat} (t : Rl sz n M (A L R)) (ox : Ok sz n x) (oy : Ok sz n y) (om : Ok sz n m) (h : Jn L R x y m) :
    ∀ i, i < off sz n → (lastb M (ps sz x) (ps sz y) i = true ↔ i = ps sz m) := by
  have g := h.lub w.toBs ox.1 oy.1
  exact t.last ox oy om (fun u v ou ov a b => w.toBs.anti ou.1 ov.1 a b) g.2.1 g.2.2.1 fun z oz a b => g.2.2.2 z oz.1 a b
/-- off grows -/
theorem off_mono {m : Nat} (h : m ≤ n) : off sz m ≤ off sz n := by
  induction n with
  | zero =>
    have e : m = 0 := by omega
    rw [e]
    exact Nat.le_refl _
  | succ n ih =>
    by_cases c : m ≤ n
    · exact Nat.le_trans (ih c) (Nat.le_add_right ..)
    · have e : m = n + 1 := by omega
      rw [e]
      exact Nat.le_refl _
theorem off_congr {sz' : Nat → Nat} : ∀ {n : Nat}, (∀ c, c < n → sz c = sz' c) → off sz n = off sz' n
  | 0, _ => rfl
  | n + 1, h => by
    show off sz n + sz n = off sz' n + sz' n
    rw [off_congr fun c hc => h c (by omega), h n (by omega)]
end
end Tl

namespace K23
open PySem PySem.Spec PyProof.Rows L2 Dk Tl
/-- one step of a reading -/
local macro_rules | `(tactic| walk_at "rd1") => `(tactic| first
  | ((with_reducible refine r_var (v := ?rv) ?rh ?_); (case rh => rfl))
  | with_reducible refine r_c ?_
  | with_reducible refine r_seq ?_
  | with_reducible refine r_asg ?_
  | with_reducible refine r_par ?_
  | with_reducible refine r_gname ?_
  | with_reducible refine r_op ?_
  | with_reducible refine r_forLo ?_
  | with_reducible refine r_forTo ?_
  | with_reducible refine r_forSo ?_
  | with_reducible refine r_forRo ?_
  | with_reducible refine r_forRvo ?_
  | with_reducible refine r_forZo ?_
  | with_reducible refine r_revS ?_
  | with_reducible refine r_lcRo ?_
  | with_reducible refine r_lcLo ?_
  | with_reducible refine r_yes ?_
  | with_reducible refine r_callK0 ?_
  | with_reducible refine r_break ?_
  | with_reducible refine r_forR2o ?_
  | with_reducible refine r_forEo ?_
  | with_reducible refine r_forESo ?_
  | with_reducible refine r_xfo ?_
  | with_reducible refine r_noP ?_
  | with_reducible refine r_part ?_
  | with_reducible refine r_pI ?_
  | with_reducible refine r_gcons ?_
  | with_reducible refine r_gnil ?_
  | with_reducible refine r_mkO ?_
  | with_reducible refine r_un ?_
  | with_reducible refine r_addI ?_
  | with_reducible refine r_I0 ?_
  | with_reducible refine r_U ?_
  | with_reducible refine r_cons ?_
  | with_reducible refine r_nil ?_
  | with_reducible refine r_CB ?_
  | with_reducible refine r_call ?_
  | with_reducible refine r_callS ?_
  | with_reducible refine r_int ?_
  | with_reducible refine r_max ?_
  | with_reducible refine r_min ?_
  | with_reducible refine r_test ?_
  | with_reducible refine r_B ?_
  | with_reducible refine r_blv ?_
  | with_reducible refine r_and ?_
  | with_reducible refine r_or ?_
  | with_reducible refine r_not ?_
  | with_reducible refine r_andV ?_
  | with_reducible refine r_orV ?_
  | with_reducible refine r_notV ?_
  | with_reducible refine r_ifE ?_
  | with_reducible refine r_ifS ?_
  | with_reducible refine r_ret ?_
  | with_reducible refine r_retN ?_
  | with_reducible refine r_drop ?_
  | with_reducible refine r_next ?_
  | with_reducible refine r_sl ?_
  | with_reducible refine r_gsub ?_
  | with_reducible refine r_bm ?_
  | with_reducible refine r_tup ?_
  | with_reducible refine r_lst ?_
  | with_reducible refine r_isN ?_
  | with_reducible refine r_notN ?_
  | with_reducible refine r_chain ?_
  | with_reducible refine r_lcEio ?_
  | with_reducible refine r_forEi ?_
  | with_reducible refine r_lcTo ?_
  | with_reducible refine r_m1 ?_
  | with_reducible refine r_dget ?_
  | with_reducible refine r_din ?_
  | with_reducible refine r_dnotin ?_
  | with_reducible refine r_starC ?_
  | with_reducible refine r_callKS ?_
  | with_reducible refine r_itt ?_
  | with_reducible refine r_iff ?_
  | with_reducible refine r_ittN ?_
  | with_reducible refine r_iffN ?_
  | ((with_reducible refine r_ittD ?rh ?_); (case rh => rfl))
  | ((with_reducible refine r_iffD ?rh ?_); (case rh => rfl))
  | ((with_reducible refine r_modP ?rh ?_); (case rh => decide))
  | ((with_reducible refine r_eq ?rh ?_); (case rh => rfl))
  | ((with_reducible refine r_eqP ?rh ?_); (case rh => rfl))
  | ((with_reducible refine r_ne ?rh ?_); (case rh => rfl)))
local macro_rules | `(tactic| walk_at "rd") => `(tactic| repeat walk_at "rd1")
local macro_rules | `(tactic| walk_at "isi") => `(tactic| first | refine r_isi (b := true) (by assumption) (by decide +kernel) ?_ | refine r_isi (b := false) (by assumption) (by decide +kernel) ?_)
local macro_rules | `(tactic| walk_at "rs1") => `(tactic| first
  | with_reducible refine r_seq ?_
  | with_reducible refine r_asg ?_
  | with_reducible refine r_gname ?_
  | with_reducible refine r_ret ?_)
local macro_rules | `(tactic| walk_at "rs") => `(tactic| repeat walk_at "rs1")

open Wd
/-- a birth: its left, its right, its size -/
def BtV (K : PySem.W.Frag) (G : Hp) (v : V) (L R : Sg) (big : Bool) (sz : Nat) : Prop := ∃ (q : Addr) (who : Int) (l r : V) (t : Str), v = .ref q ∧ Tu K G q [.int who, l, r, .str t] ∧ SgV K G l L ∧ SgV K G r R ∧ (big = true → t.length = sz) ∧ t.length ≤ 12
theorem BtV.up {K : PySem.W.Frag} {G G' : Hp} {v : V} {L R : Sg} {big : Bool} {sz : Nat} (e : Ex G G') (h : BtV K G v L R big sz) : BtV K G' v L R big sz := by
  obtain ⟨q, who, l, r, t, h1, h2, h3, h4, h5, h6⟩ := h
  exact ⟨q, who, l, r, t, h1, h2.up e, h3.up e, h4.up e, h5, h6⟩
structure Brs (K : PySem.W.Frag) (G : Hp) (xs : List V) (L R : Nat → Sg) (sz : Nat → Nat) (n : Nat) : Prop where
  len : xs.length = n
  at_ : ∀ c x, xs[c]? = some x → BtV K G x (L c) (R c) (decide (0 < c)) (sz c)
  wv : Wv L R sz n
  small : n ≤ 210
  tot : off sz n ≤ 750
theorem Brs.up {K : PySem.W.Frag} {G G' : Hp} {xs : List V} {L R : Nat → Sg} {sz : Nat → Nat} {n : Nat} (e : Ex G G') (h : Brs K G xs L R sz n) : Brs K G' xs L R sz n := ⟨h.len, fun c x hx => (h.at_ c x hx).up e, h.wv, h.small, h.tot⟩
def Wr (K : PySem.W.Frag) (G : Hp) (b : Addr) (L R : Nat → Sg) (sz : Nat → Nat) (n : Nat) : Prop := ∃ xs, Tu K G b xs ∧ Brs K G xs L R sz n
theorem Wr.up {K : PySem.W.Frag} {G G' : Hp} {b : Addr} {L R : Nat → Sg} {sz : Nat → Nat} {n : Nat} (e : Ex G G') (h : Wr K G b L R sz n) : Wr K G' b L R sz n := h.imp fun _ z => ⟨z.1.up e, z.2.up e⟩
theorem wr_of {K : PySem.W.Frag} {H : Hp} {b : Addr} {W : List Bi} (wd : WdV K H (.ref b) W) (gw : Gw W) : Wr K H b (lf W) (rf W) (Wd.sz W) W.length := by
  obtain ⟨p, xs, e, hp, hx⟩ := wd
  cases e
  refine ⟨xs, hp, hx.len, fun c x hc => ?_, gw.wv, gw.small, gw.tot⟩
  obtain ⟨bi, hb, q, lv, rv, e1, e2, e3, e4⟩ := hx.get hc
  refine ⟨q, _, lv, rv, bi.t, e1, e2, ?_, ?_, fun h0 => ?_, gw.tl bi (List.mem_of_getElem? hb)⟩
  · rw [lf_at hb]; exact e3
  · rw [rf_at hb]; exact e4
  · exact (sz_at (of_decide_eq_true h0) hb).symm
theorem off_le12 {sz : Nat → Nat} {n : Nat} (h0 : sz 0 ≤ 2) (h : ∀ c, 0 < c → c < n → sz c ≤ 12) : ∀ m, m ≤ n → off sz m ≤ 12 * m
  | 0, _ => Nat.le_refl _
  | m + 1, hm => by
    have := off_le12 h0 h m (by omega)
    have : sz m ≤ 12 := by
      rcases Nat.eq_zero_or_pos m with z | z
      · rw [z]; omega
      · exact h m z (by omega)
    show off sz m + sz m ≤ _
    omega
/-- a list of our own under way -/
structure Ls (A : Addr → Prop) (G H : Hp) (l : Addr) (G1 H1 : Hp) (xs : List V) : Prop where
  t : Gr A G H G1 H1
  own : H1 l = some (.lst xs)
  gp : G1 l = none
  hp : H l = none
section
variable {A : Addr → Prop} {G H G1 H1 G2 H2 : Hp} {l : Addr} {xs ys : List V}
theorem Ls.step (b : Ls A G H l G1 H1 xs) (t : Gr A G1 H1 G2 H2) (na : ¬ A l) : Ls A G H l G2 H2 xs := ⟨b.t.trans t, t.hh _ _ na b.own, t.nw _ _ b.own b.gp, b.hp⟩
theorem Ls.put (b : Ls A G H l G1 H1 xs) (ys : List V) : Ls A G H l G1 (upd H1 l (.lst ys)) ys := ⟨b.t.mut (.inr b.hp) b.gp, upd_same, b.gp, b.hp⟩
theorem Ls.start (t : Gr A G H G1 H1) (n : H1 l = none) : Ls A G H l G1 (upd H1 l (.lst xs)) xs := ⟨t.trans (Gr.own t.gh n), upd_same, t.gh.free n, t.fresh n⟩
theorem Ls.give (b : Ls A G H l G1 H1 xs) : Gr A G H (upd G1 l (.lst xs)) H1 := b.t.give b.hp b.own b.gp
end
section
variable {P : Program} {w : World} {K : PySem.W.Frag} {mg : Str → Option Value} {base : Heap}
theorem Brs.sz3 {K : PySem.W.Frag} {G : Hp} {xs : List V} {L R : Nat → Sg} {sz : Nat → Nat} {n : Nat} (h : Brs K G xs L R sz n) : ∀ c, 0 < c → c < n → sz c ≤ 12 := fun c h0 hc => by
  obtain ⟨x, hx⟩ : ∃ x, xs[c]? = some x := ⟨_, List.getElem?_eq_getElem (by rw [h.len]; exact hc)⟩
  obtain ⟨q, who, l, r, t, _, _, _, _, h5, h6⟩ := h.at_ c x hx
  rw [← h5 (decide_eq_true h0)]
  exact h6
theorem Brs.off_le {K : PySem.W.Frag} {G : Hp} {xs : List V} {L R : Nat → Sg} {sz : Nat → Nat} {n : Nat} (h : Brs K G xs L R sz n) {m : Nat} (hm : m ≤ n) : off sz m ≤ 750 := by
  exact Nat.le_trans (off_upto hm) h.tot
def spAll (K : PySem.W.Frag) : Sp := fun vs H Q _ => ∃ (b : Addr) (L R : Nat → Sg) (sz : Nat → Nat) (n : Nat) (G : Hp), vs = [.ref b] ∧ Ex G H ∧ Wr K G b L R sz n ∧ ∀ p G' H' xs, Gr A0 G H G' H' → H p = none → G' p = some (.lst xs) → SgL K G' xs (marks sz n) → Q (.ref p) H'
theorem ok_law_all (T : Txt K mg) : FnOk P w K mg base CX0 1 T.a_law_all T.d_law_all ["_law_world"] (spAll K) := by
  refine T.F_law_all.ok sc_law_all (fun vs H Q E h => ?_) (fun cdv A outer s H vs Q E hr h => ?_)
  · obtain ⟨b, L, R, sz, n, G, rfl, _⟩ := h
    rfl
  · obtain ⟨b, L, R, sz, n, G, rfl, e0, ⟨ws, hb, br⟩, q⟩ := h
    refine ⟨_, (pss_cons (ps_set (i := 1) sc_law_all.nd rfl (Or.inl rfl) (pe_lst (pa_cons (pe_tup (pa_cons pe_int (pa_cons pe_int pa_nil))) (pa_cons (pe_tup (pa_cons pe_int (pa_cons pe_int pa_nil))) pa_nil))))
        (pss_cons (ps_for PassesOwn.never rfl (pi_range2 (by rfl) T.n_range (pa_cons pe_int (pa_cons (pe_callB call_lenU (by rfl) T.n_len (by decide +kernel) (pa_cons (pv 0) pa_nil)) pa_nil))) (pg_name (i := 2) sc_law_all.nd rfl (Or.inl rfl)) (pss_one (ps_for PassesOwn.never rfl (pi_range1 (by rfl) T.n_range (pa_cons (pe_callB call_lenU (by rfl) T.n_len (by decide +kernel) (pa_cons (pe_ix ix_seq (pe_ix ix_seq (pv 0) (pv 2) (fun _ _ => rfl)) pe_int (fun _ _ => rfl)) pa_nil)) pa_nil)) (pg_name (i := 3) sc_law_all.nd rfl (Or.inl rfl)) (pss_one (ps_expr (pe_bm PySem.F.plainAttrs_list PySem.F.slot_list_append PySem.F.type_list_append mt_append (pv 1) (pa_cons (pe_tup (pa_cons (pv 2) (pa_cons (pv 3) pa_nil))) pa_nil)))))))
        (pss_one (ps_ret (pv 1))))), ?_⟩
    have bl := br.len
    have bn := br.small
    have w0 := br.wv.n0
    walk_at "rd"
    refine r_small nsz fun p1 n1 => ?_
    obtain ⟨G1, H1, k1, s1, h1⟩ := new_ex e0 n1 (.tup [.int 0, .int 0])
    rw [← k1]
    walk_at "rd"
    refine r_small nsz fun p2 n2 => ?_
    obtain ⟨G2, H2, k2, s2, h2⟩ := new_ex s1.gh n2 (.tup [.int 0, .int 1])
    rw [← k2]
    walk_at "rd"
    refine r_small nsz fun l n3 => ?_
    have B : Ls A0 G H l G2 (upd H2 l (.lst [.ref p1, .ref p2])) [.ref p1, .ref p2] := Ls.start (s1.trans s2) n3
    walk_at "rd"
    refine r_lenT ((hb.up B.t.gg).up B.t.gh).sq ?_
    rw [bl]
    walk_at "rd"
    refine l_R1n (by omega) (by omega) (fun c σ H' => ∃ xs G' y1 y2, σ = [some (.ref b), some (.ref l), y1, y2] ∧ Ls A0 G H l G' H' xs ∧ SgL K G' xs (marks sz c)) ⟨_, G2, none, none, rfl, B, ?_⟩ (fun c σ H' c1 c2 hW => ?_) (fun σ H' hW => ?_)
    · rw [Tl.marks_one br.wv.s0]
      exact .cons ⟨p1, rfl, .inl (s2.gg _ _ h1)⟩ (.cons ⟨p2, rfl, .inl h2⟩ .nil)
    · obtain ⟨xs, G', y1, y2, rfl, B', hS⟩ := hW
      obtain ⟨bv, hbv⟩ : ∃ bv, ws[c]? = some bv := ⟨_, List.getElem?_eq_getElem (by omega)⟩
      obtain ⟨q4, who, lv, rv, tx, rfl, hq4, hL, hR, ht, ht3⟩ := br.at_ _ _ hbv
      have hq4' := (hq4.up B'.t.gg).up B'.t.gh
      have hsz := ht (decide_eq_true c1)
      walk_at "rd"
      refine r_ixT ((hb.up B'.t.gg).up B'.t.gh).sq (atI_nat hbv) ?_
      walk_at "rd"
      refine r_ixT hq4'.sq (atI_nat (j := 3) rfl) ?_
      walk_at "rd"
      refine r_lenS (by rw [sizeLine_eq]; omega) ?_
      walk_at "rd"
      refine l_R (by omega) (by omega) (fun i σ H' => ∃ xs G' y2, σ = [some (.ref b), some (.ref l), some (.int (c : Nat)), y2] ∧ Ls A0 G H l G' H' xs ∧ SgL K G' xs (marks sz c ++ (List.range i).map fun k => (c, k))) ⟨xs, G', y2, rfl, B', by simpa using hS⟩ (fun i σ H2 hi hW => ?_) (fun σ H2 hW => ?_)
      · obtain ⟨xs, G', y2, rfl, B', hS⟩ := hW
        have hlen : xs.length ≤ 780 := by
          have z := hS.len
          rw [List.length_append, marks_len] at z
          have z2 := br.off_le (Nat.le_of_lt c2)
          simp at z
          omega
        walk_at "rd"
        refine r_tyL (sqL B'.own) ?_
        walk_at "rd"
        refine r_small nsz fun p5 n5 => ?_
        obtain ⟨G5, H5, k5, s5, h5⟩ := new_ex B'.t.gh n5 (.tup [.int (c : Nat), .int (i : Nat)])
        rw [← k5]
        have B5 := B'.step s5 id
        walk_at "rd"
        refine r_app B5.own (Nat.lt_of_le_of_lt hlen (by decide)) ?_
        walk_at "rd"
        refine ⟨_, G5, _, rfl, B5.put _, ?_⟩
        rw [List.range_succ, List.map_append, ← List.append_assoc]
        exact (hS.up s5.gg).snoc ⟨p5, rfl, .inl h5⟩
      · obtain ⟨xs, G', y2, rfl, B', hS⟩ := hW
        rw [Int.toNat_natCast, hsz] at hS
        exact ⟨xs, G', _, _, rfl, B', hS⟩
    · obtain ⟨xs, G', y1, y2, rfl, B', hS⟩ := hW
      walk_at "rd"
      exact q l _ _ xs B'.give B'.hp upd_same (hS.up (Same.new (Same.refl G') B'.gp))
/-! ### the table -/
abbrev tbv (T : List Nat) : List V := T.map fun m => V.int (m : Nat)
theorem tb_at {T : List Nat} {a : Nat} (h : a < T.length) : (tbv T)[a]? = some (.int ((T.getD a 0 : Nat) : Int)) := by
  rw [List.getElem?_map, List.getElem?_eq_getElem h, List.getD_eq_getElem?_getD, List.getElem?_eq_getElem h]
  rfl
theorem tb_set {T : List Nat} {a m : Nat} : (tbv T).set a (.int (m : Nat)) = tbv (T.set a m) := by
  show (T.map fun m => V.int (m : Nat)).set a ((fun m : Nat => V.int (m : Nat)) m) = _
  exact (List.map_set ..).symm
theorem Gr.all {H H1 : Hp} (e : Ex H H1) : Gr A0 H H H1 H1 :=
  ⟨e, Same.refl _, fun b o _ h => e b o h, fun b o h => ⟨o, e b o h⟩, fun b o h h' => absurd h' (by rw [h]; exact fun z => nomatch z)⟩
def spClosed (K : PySem.W.Frag) : Sp := fun vs H Q _ => ∃ (b : Addr) (L R : Nat → Sg) (sz : Nat → Nat) (n : Nat), vs = [.ref b] ∧ Wr K H b L R sz n ∧ ∀ p H' T, Ex H H' → H p = none → H' p = some (.lst (tbv T)) → Tells L R sz n T → Q (.ref p) H'
theorem ok_law_closed (T : Txt K mg) : FnOk P w K mg base CX0 2 T.a_law_closed T.d_law_closed ["_law_world"] (spClosed K) := by
  refine T.F_law_closed.ok sc_law_closed (fun vs H Q E h => ?_) (fun cdv A outer s H vs Q E hr h => ?_)
  · obtain ⟨b, L, R, sz, n, rfl, _⟩ := h
    rfl
  · obtain ⟨b, L, R, sz, n, rfl, ⟨ws, hb, br⟩, q⟩ := h
    refine ⟨_, (pss_cons (ps_set (i := 1) sc_law_closed.nd rfl (Or.inl rfl) (pe_call (ok_law_all T) hr (by rfl) T.g_law_all T.F_law_all.kp T.b_law_all .nil pass0 (pa_cons (pv 0) pa_nil)))
        (pss_cons (ps_set (i := 2) sc_law_closed.nd rfl (Or.inl rfl) (pe_lst (pa_cons (pe_tup (pa_cons pe_int (pa_cons pe_int pa_nil))) pa_nil)))
        (pss_cons (ps_for PassesOwn.never rfl (pi_range2 (by rfl) T.n_range (pa_cons pe_int (pa_cons (pe_callB call_lenU (by rfl) T.n_len (by decide +kernel) (pa_cons (pv 0) pa_nil)) pa_nil))) (pg_name (i := 3) sc_law_closed.nd rfl (Or.inl rfl)) (pss_cons (ps_set (i := 4) sc_law_closed.nd rfl (Or.inl rfl) (pe_callB call_lenU (by rfl) T.n_len (by decide +kernel) (pa_cons (pe_ix ix_seq (pe_ix ix_seq (pv 0) (pv 3) (fun _ _ => rfl)) pe_int (fun _ _ => rfl)) pa_nil)))
        (pss_cons (ps_set (i := 5) sc_law_closed.nd rfl (Or.inl rfl) (pe_bm PySem.F.plainAttrs_list PySem.F.slot_list_index PySem.F.type_list_index (mt_indexD hr.units65) (pv 1) (pa_cons (pe_tup (pa_cons (pv 3) (pa_cons pe_int pa_nil))) pa_nil)))
        (pss_cons (ps_expr (pe_bm PySem.F.plainAttrs_list PySem.F.slot_list_append PySem.F.type_list_append mt_append (pv 2) (pa_cons (pe_tup (pa_cons (pe_bm PySem.F.plainAttrs_list PySem.F.slot_list_index PySem.F.type_list_index (mt_indexD hr.units65) (pv 1) (pa_cons (pe_ix ix_seq (pe_ix ix_seq (pv 0) (pv 3) (fun _ _ => rfl)) pe_int (fun _ _ => rfl)) pa_nil)) (pa_cons (pv 5) pa_nil))) pa_nil)))
        (pss_cons (ps_for PassesOwn.never rfl (pi_range1 (by rfl) T.n_range (pa_cons (pe_op op_sub (pv 4) pe_int) pa_nil)) (pg_name (i := 6) sc_law_closed.nd rfl (Or.inl rfl)) (pss_one (ps_expr (pe_bm PySem.F.plainAttrs_list PySem.F.slot_list_append PySem.F.type_list_append mt_append (pv 2) (pa_cons (pe_tup (pa_cons (pe_op op_addU (pv 5) (pv 6)) (pa_cons (pe_op op_addU (pe_op op_addU (pv 5) (pv 6)) pe_int) pa_nil))) pa_nil)))))
        (pss_one (ps_expr (pe_bm PySem.F.plainAttrs_list PySem.F.slot_list_append PySem.F.type_list_append mt_append (pv 2) (pa_cons (pe_tup (pa_cons (pe_op op_sub (pe_op op_addU (pv 5) (pv 4)) pe_int) (pa_cons (pe_bm PySem.F.plainAttrs_list PySem.F.slot_list_index PySem.F.type_list_index (mt_indexD hr.units65) (pv 1) (pa_cons (pe_ix ix_seq (pe_ix ix_seq (pv 0) (pv 3) (fun _ _ => rfl)) pe_int (fun _ _ => rfl)) pa_nil)) pa_nil))) pa_nil)))))))))
        (pss_cons (ps_setLc (i := 7) (own := [("_law_k", 13)]) (g := gName 13) rfl sc_law_closed.nd rfl rfl (sw_true rfl rfl rfl (by decide +kernel)) (pi_list (pv 1)) (blkOk_by (N := N_law_closed) (sc := defScope s_law_closed) (by decide +kernel)) (fun _ _ _ _ _ => pg_name (i := 13) sc_law_closed.nd rfl (Or.inl rfl)) (fun _ _ _ _ _ => pts_nil) (fun _ _ _ _ _ => pe_int))
        (pss_cons (ps_for PassesOwn.never rfl (pi_range1 (by rfl) T.n_range (pa_cons (pe_op op_addU (pe_callB call_lenU (by rfl) T.n_len (by decide +kernel) (pa_cons (pv 2) pa_nil)) pe_int) pa_nil)) (pg_name (i := 8) sc_law_closed.nd rfl (Or.inl rfl)) (pss_cons (ps_set (i := 9) sc_law_closed.nd rfl (Or.inl rfl) pe_bl)
        (pss_cons (ps_for PassesOwn.never rfl (pi_list (pv 2)) (pg_tup rfl (pgs_cons (pg_name (i := 10) sc_law_closed.nd rfl (Or.inl rfl)) (pgs_cons (pg_name (i := 11) sc_law_closed.nd rfl (Or.inl rfl)) pgs_nil))) (pss_cons (ps_set (i := 12) sc_law_closed.nd rfl (Or.inl rfl) (pe_op op_or (pe_op op_or (pe_ix ix_seq (pv 7) (pv 10) (fun _ _ => rfl)) (pe_op op_shl pe_int (pv 11))) (pe_ix ix_seq (pv 7) (pv 11) (fun _ _ => rfl))))
        (pss_one (ps_if (pt_cmpR (op_neU hr.units) (pv 12) (pe_ix ix_seq (pv 7) (pv 10) (fun _ _ => rfl)) (nomark _)) (pss_cons (ps_asg (pv 12) (pg_sub (pv 7) (pv 10) set_list))
        (pss_one (ps_set (i := 9) sc_law_closed.nd rfl (Or.inl rfl) pe_bl))) pss_nil))))
        (pss_one (ps_if (pt_val (pv 9)) (pss_one ps_break) pss_nil)))))
        (pss_one (ps_ret (pv 7)))))))), ?_⟩
    have e0 := Same.refl H
    have bl := br.len
    have bn := br.small
    have w0 := br.wv.n0
    have wv := br.wv
    walk_at "rd"
    refine ⟨b, L, R, sz, n, H, rfl, e0, ⟨ws, hb, br⟩, fun m G1 H1 ms t1 _ hm hms => ?_⟩
    walk_at "rd"
    refine r_small nsz fun p2 n2 => ?_
    obtain ⟨G2, H2, k2, s2, h2⟩ := new_ex t1.gh n2 (.tup [.int 0, .int 1])
    rw [← k2]
    walk_at "rd"
    refine r_small nsz fun l n3 => ?_
    have B : Ls A0 H H l G2 (upd H2 l (.lst [.ref p2])) [.ref p2] := Ls.start (t1.trans s2) n3
    have stl : ∀ c, c ≤ n → 1 ≤ c → (steps L R sz (c - 1)).length ≤ 1000 := fun c h1 h2 => by
      have z := steps_le wv (c - 1) (by omega)
      have z2 := br.off_le (m := c - 1 + 1) (by omega)
      omega
    have hmG : ∀ {G'}, Ex G2 G' → G' m = some (.lst ms) := fun e => e _ _ (s2.gg _ _ hm)
    have msG : ∀ {G'}, Ex G2 G' → SgL K G' ms (marks sz n) := fun e => hms.up (s2.gg.trans e)
    walk_at "rd"
    refine r_lenT ((hb.up B.t.gg).up B.t.gh).sq ?_
    rw [bl]
    walk_at "rd"
    refine l_R1n (by omega) (by omega) (fun c σ H' => ∃ xs G' y1 y2 y3 y4, σ = [some (.ref b), some (.ref m), some (.ref l), y1, y2, y3, y4, none, none, none, none, none, none, none] ∧ Ls A0 H H l G' H' xs ∧ Ex G2 G' ∧ SgL K G' xs (steps L R sz (c - 1))) ⟨_, G2, none, none, none, none, rfl, B, Same.refl _, .cons ⟨p2, rfl, .inl h2⟩ .nil⟩ (fun c σ H' c1 c2 hW => ?_) (fun σ H' hW => ?_)
    · obtain ⟨xs, G', y1, y2, y3, y4, rfl, B', eG, hS⟩ := hW
      obtain ⟨bv, hbv⟩ : ∃ bv, ws[c]? = some bv := ⟨_, List.getElem?_eq_getElem (by omega)⟩
      obtain ⟨q4, who, lv, rv, tx, rfl, hq4, hL, hR, ht, ht3⟩ := br.at_ _ _ hbv
      have hsz := ht (decide_eq_true c1)
      have sz1 := wv.s1 c c1 c2
      have hlen : xs.length ≤ 1030 := by
        have z := hS.len
        have z2 := stl c (by omega) c1
        omega
      walk_at "rd"
      refine r_ixT ((hb.up B'.t.gg).up B'.t.gh).sq (atI_nat hbv) ?_
      walk_at "rd"
      refine r_ixT ((hq4.up B'.t.gg).up B'.t.gh).sq (atI_nat (j := 3) rfl) ?_
      walk_at "rd"
      refine r_lenS (by rw [sizeLine_eq]; omega) ?_
      walk_at "rd"
      refine r_tyL (sqL (B'.t.gh _ _ (hmG eG))) ?_
      walk_at "rd"
      refine r_small nsz fun p5 n5 => ?_
      obtain ⟨G5, H5, k5, s5, h5⟩ := new_ex B'.t.gh n5 (.tup [.int (c : Nat), .int 0])
      rw [← k5]
      have B5 := B'.step s5 id
      have eG5 := eG.trans s5.gg
      have okc : Ok sz n (c, 0) := ⟨c2, sz1⟩
      walk_at "rd"
      refine r_indexSg (sqL (B5.t.gh _ _ (hmG eG5))) ((msG eG5).up B5.t.gh) ((show SgV K G5 (.ref p5) (c, 0) from ⟨p5, rfl, .inl h5⟩).up B5.t.gh) (mark_first okc).1 (mark_first okc).2 ?_
      rw [show ps sz (c, 0) = off sz c from rfl]
      walk_at "rd"
      refine r_tyL (sqL B5.own) ?_
      walk_at "rd"
      refine r_tyL (sqL (B5.t.gh _ _ (hmG eG5))) ?_
      walk_at "rd"
      refine r_ixT ((hb.up B5.t.gg).up B5.t.gh).sq (atI_nat hbv) ?_
      walk_at "rd"
      refine r_ixT ((hq4.up B5.t.gg).up B5.t.gh).sq (atI_nat (j := 1) rfl) ?_
      walk_at "rd"
      have okl := wv.okL c1 c2
      refine r_indexSg (sqL (B5.t.gh _ _ (hmG eG5))) ((msG eG5).up B5.t.gh) (hL.up (B5.t.g0)) (mark_first okl).1 (mark_first okl).2 ?_
      walk_at "rd"
      refine r_small nsz fun p6 n6 => ?_
      obtain ⟨G6, H6, k6, s6, h6⟩ := new_ex B5.t.gh n6 (.tup [.int (ps sz (L c) : Nat), .int (off sz c : Nat)])
      rw [← k6]
      have B6 := B5.step s6 id
      have eG6 := eG5.trans s6.gg
      walk_at "rd"
      refine r_app B6.own (Nat.lt_of_le_of_lt hlen (by decide)) ?_
      walk_at "rd"
      have B7 := B6.put (xs ++ [.ref p6])
      have S7 : SgL K G6 (xs ++ [.ref p6]) (steps L R sz (c - 1) ++ [(ps sz (L c), off sz c)]) := ((hS.up s5.gg).up s6.gg).snoc ⟨p6, rfl, .inl h6⟩
      refine l_R (by omega) (by omega) (fun i σ H' => ∃ xs G' y4, σ = [some (.ref b), some (.ref m), some (.ref l), some (.int (c : Nat)), some (.int (tx.length : Nat)), some (.int (off sz c : Nat)), y4, none, none, none, none, none, none, none] ∧ Ls A0 H H l G' H' xs ∧ Ex G2 G' ∧
        SgL K G' xs (steps L R sz (c - 1) ++ [(ps sz (L c), off sz c)] ++ (List.range i).map fun k => (off sz c + k, off sz c + k + 1))) ⟨_, G6, y4, rfl, B7, eG6, by simpa using S7⟩ (fun i σ H2 hi hW => ?_) (fun σ H2 hW => ?_)
      · obtain ⟨xs, G', y4, rfl, B', eG, hS⟩ := hW
        have hlen : xs.length ≤ 1030 := by
          have z := hS.len
          have z2 := stl c (by omega) c1
          have z3 := br.sz3 c c1 c2
          simp only [List.length_append, List.length_map, List.length_range, List.length_cons, List.length_nil] at z
          omega
        walk_at "rd"
        refine r_tyL (sqL B'.own) ?_
        walk_at "rd"
        refine r_small nsz fun p5 n5 => ?_
        obtain ⟨G5, H5, k5, s5, h5⟩ := new_ex B'.t.gh n5 (.tup [.int (off sz c + i : Nat), .int (off sz c + i + 1 : Nat)])
        rw [show (HO.tup [V.int ((off sz c : Nat) + (i : Nat) : Int), V.int ((off sz c : Nat) + (i : Nat) + 1 : Int)]) = .tup [.int (off sz c + i : Nat), .int (off sz c + i + 1 : Nat)] from rfl, ← k5]
        have B5 := B'.step s5 id
        walk_at "rd"
        refine r_app B5.own (Nat.lt_of_le_of_lt hlen (by decide)) ?_
        walk_at "rd"
        refine ⟨_, G5, _, rfl, B5.put _, eG.trans s5.gg, ?_⟩
        rw [List.range_succ, List.map_append, ← List.append_assoc]
        exact (hS.up s5.gg).snoc ⟨p5, rfl, .inl h5⟩
      · obtain ⟨xs, G', y4, rfl, B', eG, hS⟩ := hW
        have hlen : xs.length ≤ 1030 := by
          have z := hS.len
          have z2 := stl c (by omega) c1
          have z3 := br.sz3 c c1 c2
          simp only [List.length_append, List.length_map, List.length_range, List.length_cons, List.length_nil] at z
          omega
        walk_at "rd"
        refine r_tyL (sqL B'.own) ?_
        walk_at "rd"
        refine r_tyL (sqL (B'.t.gh _ _ (hmG eG))) ?_
        walk_at "rd"
        refine r_ixT ((hb.up B'.t.gg).up B'.t.gh).sq (atI_nat hbv) ?_
        walk_at "rd"
        refine r_ixT ((hq4.up B'.t.gg).up B'.t.gh).sq (atI_nat (j := 2) rfl) ?_
        walk_at "rd"
        have okr := wv.okR c1 c2
        refine r_indexSg (sqL (B'.t.gh _ _ (hmG eG))) ((msG eG).up B'.t.gh) (hR.up (B'.t.g0)) (mark_first okr).1 (mark_first okr).2 ?_
        walk_at "rd"
        refine r_small nsz fun p6 n6 => ?_
        obtain ⟨G6, H6, k6, s6, h6⟩ := new_ex B'.t.gh n6 (.tup [.int (off sz c + sz c - 1 : Nat), .int (ps sz (R c) : Nat)])
        have ev : ((off sz c : Nat) + (tx.length : Nat) - 1 : Int) = ((off sz c + sz c - 1 : Nat) : Int) := by omega
        rw [ev, ← k6]
        have B6 := B'.step s6 id
        walk_at "rd"
        refine r_app B6.own (Nat.lt_of_le_of_lt hlen (by decide)) ?_
        walk_at "rd"
        refine ⟨_, G6, _, _, _, _, rfl, B6.put _, eG.trans s6.gg, ?_⟩
        have e2 : ((tx.length : Nat) - 1 : Int).toNat = sz c - 1 := by omega
        rw [e2] at hS
        have e3 : steps L R sz (c + 1 - 1) = steps L R sz (c - 1) ++ [(ps sz (L c), off sz c)] ++ ((List.range (sz c - 1)).map fun k => (off sz c + k, off sz c + k + 1)) ++ [(off sz c + sz c - 1, ps sz (R c))] := by
          obtain ⟨d, rfl⟩ : ∃ d, c = d + 1 := ⟨c - 1, by omega⟩
          show steps L R sz d ++ stepsOf L R sz (d + 1) = steps L R sz d ++ _ ++ _ ++ _
          unfold stepsOf
          simp
        rw [e3]
        exact (hS.up s6.gg).snoc ⟨p6, rfl, .inl h6⟩
    · obtain ⟨xs, G', y1, y2, y3, y4, rfl, B', eG, hS⟩ := hW
      have hS3 := stl n (Nat.le_refl _) w0
      have hSl := hS.len
      have t3 := B'.give
      obtain ⟨G3, hG3⟩ : ∃ G3, G3 = upd G' l (.lst xs) := ⟨_, rfl⟩
      rw [← hG3] at t3
      have eG3 : Ex G' G3 := fun b o e => by
        rw [hG3, upd_ne (ne_of_none e B'.gp)]
        exact e
      have h3l : G3 l = some (.lst xs) := by rw [hG3, upd_same]
      have hS' := hS.up eG3
      have mlen : ms.length = off sz n := by rw [hms.len, marks_len]
      have off1 := br.off_le (Nat.le_refl n)
      walk_at "rd"
      refine l_lcL (sqL (B'.t.gh _ _ (hmG eG))) (fun D i H2 => Ls A0 H H D G3 H2 (tbv (List.replicate i 0))) (fun D hD => Ls.start t3 hD) (fun D i H2 hP => sqL (hP.t.gh _ _ (eG3 _ _ (hmG eG)))) (fun D i x H2 hD hx hP => ?_) (fun t H2 hD hP => ?_)
      · have hi := (List.getElem?_eq_some_iff.mp hx).1
        walk_at "rd"
        refine ⟨rfl, ?_⟩
        walk_at "rd"
        refine ⟨_, hP.own, by rw [List.length_map, List.length_replicate]; exact Nat.lt_of_le_of_lt (show i ≤ 1000 by omega) (by decide), ?_⟩
        have z := hP.put (tbv (List.replicate (i + 1) 0))
        have e : tbv (List.replicate (i + 1) 0) = tbv (List.replicate i 0) ++ [V.int 0] := by
          rw [List.replicate_succ']
          exact List.map_append ..
        rw [e] at z ⊢
        exact z
      · walk_at "rd"
        refine r_lenL (sqL (hP.t.gh _ _ h3l)) ?_
        walk_at "rd"
        refine l_R (by omega) (by omega) (fun i σ H' => ∃ T z1 z2 z3 z4 z5, σ = [some (.ref b), some (.ref m), some (.ref l), y1, y2, y3, y4, some (.ref t), z1, z2, z3, z4, z5, none] ∧ Ls A0 H H t G3 H' (tbv T) ∧ Under L R sz n T i) ⟨_, none, none, none, none, none, rfl, hP, by rw [mlen]; exact Under.zero⟩ (fun i σ H' hi hW => ?_) (fun σ H' hW => ?_)
        · obtain ⟨T, z1, z2, z3, z4, z5, rfl, B4, u⟩ := hW
          walk_at "rd"
          refine l_L (sqL (B4.t.gh _ _ h3l)) (fun j σ H' => ∃ T1 st z3 z4 z5, σ = [some (.ref b), some (.ref m), some (.ref l), y1, y2, y3, y4, some (.ref t), some (.int (i : Nat)), some (.bl st), z3, z4, z5, none] ∧ Ls A0 H H t G3 H' (tbv T1) ∧ T1 = lap ((steps L R sz (n - 1)).take j) T ∧
            (st = true → T1 = T ∧ ∀ i e, i < j → (steps L R sz (n - 1))[i]? = some e → put T e = T)) ⟨T, true, z3, z4, z5, rfl, B4, rfl, fun _ => ⟨rfl, fun i e hi => absurd hi (Nat.not_lt_zero _)⟩⟩ (fun j σ H' hW => ?_) (fun j x σ H' hx hW => ?_) (fun σ H' hW => ?_)
          · obtain ⟨_, _, _, _, _, _, B5, _⟩ := hW
            exact sqL (B5.t.gh _ _ h3l)
          · obtain ⟨T1, st, z3, z4, z5, rfl, B5, hT, hst⟩ := hW
            obtain ⟨e, he, p, rfl, hp⟩ := hS'.get hx
            have hem := List.mem_of_getElem? he
            have hlt := step_lt wv (a := e.1) (b := e.2) hem
            have T1l : T1.length = off sz n := by rw [hT, lap_len, u.len]
            have ha : e.1 < T1.length := by omega
            have hb2 : e.2 < T1.length := by omega
            have hput : put T1 e = lap ((steps L R sz (n - 1)).take (j + 1)) T := by
              rw [hT, ← lap_snoc, List.take_add_one, he]
              rfl
            refine r_gtup (hp.up B5.t.gh).sq rfl ?_
            walk_at "rd"
            refine r_ixL (sqL B5.own) (atI_nat (tb_at ha)) ?_
            walk_at "rd"
            refine r_I ⟨by omega, by omega, by decide⟩ ?_
            walk_at "rd"
            refine r_ixL (sqL B5.own) (atI_nat (tb_at hb2)) ?_
            walk_at "rd"
            rw [or_val]
            walk_at "rd"
            refine r_ixL (sqL B5.own) (atI_nat (tb_at ha)) ?_
            walk_at "rd"
            refine r_iteN (fun hn => ?_) (fun heq => ?_)
            · walk_at "rd"
              refine r_setL B5.own (ixN_nat (by omega) (by rw [List.length_map]; omega)) ?_
              walk_at "rd"
              refine ⟨put T1 e, false, _, _, _, rfl, ?_, hput, fun z => nomatch z⟩
              rw [Int.toNat_natCast, tb_set]
              exact B5.put _
            · have hpe : put T1 e = T1 := put_eq ha (by
                have z := V.int.inj heq
                omega)
              walk_at "rd"
              refine ⟨T1, st, _, _, _, rfl, B5, by rw [← hput, hpe], fun hs => ?_⟩
              obtain ⟨h1, h2⟩ := hst hs
              refine ⟨h1, fun i' e' hi' he' => ?_⟩
              by_cases hij : i' < j
              · exact h2 i' e' hij he'
              · have e4 : i' = j := by omega
                rw [e4, he] at he'
                rw [← Option.some.inj he', ← h1]
                exact hpe
          · obtain ⟨T1, st, z3, z4, z5, rfl, B5, hT, hst⟩ := hW
            rw [hSl, List.take_length] at hT
            walk_at "rd"
            refine r_iteB (fun hs => ?_) (fun hs => ?_)
            · refine r_break ?_
              walk_at "rd"
              obtain ⟨h1, h2⟩ := hst hs
              subst h1
              refine q t H' T1 B5.t.g0 B5.hp B5.own (u.still wv fun a b' c' hab hc => ?_)
              obtain ⟨i', hi'⟩ := List.getElem?_of_mem hab
              have hlt := step_lt wv (a := a) (b := b') hab
              have hi2 := (List.getElem?_eq_some_iff.mp hi').1
              exact bit_same (e := (a, b')) (h2 i' _ (by rw [hSl]; exact hi2) hi') (by rw [u.len]; exact hlt.1) c' hc
            · walk_at "rd"
              refine ⟨T1, _, _, _, _, _, rfl, B5, ?_⟩
              rw [hT]
              exact u.lap wv
        · obtain ⟨T, z1, z2, z3, z4, z5, rfl, B4, u⟩ := hW
          walk_at "rd"
          refine q t H' T B4.t.g0 B4.hp B4.own (u.done wv ?_)
          have z := steps_len wv
          omega
end

end K23

namespace K23
open PySem PySem.Spec PyProof.Rows L2 Dk Tl
/-- one step of a reading -/
local macro_rules | `(tactic| walk_at "rd1") => `(tactic| first
  | ((with_reducible refine r_var (v := ?rv) ?rh ?_); (case rh => rfl))
  | with_reducible refine r_c ?_
  | with_reducible refine r_seq ?_
  | with_reducible refine r_asg ?_
  | with_reducible refine r_par ?_
  | with_reducible refine r_gname ?_
  | with_reducible refine r_op ?_
  | with_reducible refine r_forLo ?_
  | with_reducible refine r_forTo ?_
  | with_reducible refine r_forSo ?_
  | with_reducible refine r_forRo ?_
  | with_reducible refine r_forRvo ?_
  | with_reducible refine r_forZo ?_
  | with_reducible refine r_revS ?_
  | with_reducible refine r_lcRo ?_
  | with_reducible refine r_lcLo ?_
  | with_reducible refine r_yes ?_
  | with_reducible refine r_callK0 ?_
  | with_reducible refine r_break ?_
  | with_reducible refine r_forR2o ?_
  | with_reducible refine r_forEo ?_
  | with_reducible refine r_forESo ?_
  | with_reducible refine r_xfo ?_
  | with_reducible refine r_noP ?_
  | with_reducible refine r_part ?_
  | with_reducible refine r_pI ?_
  | with_reducible refine r_gcons ?_
  | with_reducible refine r_gnil ?_
  | with_reducible refine r_mkO ?_
  | with_reducible refine r_un ?_
  | with_reducible refine r_addI ?_
  | with_reducible refine r_I0 ?_
  | with_reducible refine r_U ?_
  | with_reducible refine r_cons ?_
  | with_reducible refine r_nil ?_
  | with_reducible refine r_CB ?_
  | with_reducible refine r_call ?_
  | with_reducible refine r_callS ?_
  | with_reducible refine r_int ?_
  | with_reducible refine r_max ?_
  | with_reducible refine r_min ?_
  | with_reducible refine r_test ?_
  | with_reducible refine r_B ?_
  | with_reducible refine r_blv ?_
  | with_reducible refine r_and ?_
  | with_reducible refine r_or ?_
  | with_reducible refine r_not ?_
  | with_reducible refine r_andV ?_
  | with_reducible refine r_orV ?_
  | with_reducible refine r_notV ?_
  | with_reducible refine r_ifE ?_
  | with_reducible refine r_ifS ?_
  | with_reducible refine r_ret ?_
  | with_reducible refine r_retN ?_
  | with_reducible refine r_drop ?_
  | with_reducible refine r_next ?_
  | with_reducible refine r_sl ?_
  | with_reducible refine r_gsub ?_
  | with_reducible refine r_bm ?_
  | with_reducible refine r_tup ?_
  | with_reducible refine r_lst ?_
  | with_reducible refine r_isN ?_
  | with_reducible refine r_notN ?_
  | with_reducible refine r_chain ?_
  | with_reducible refine r_lcEio ?_
  | with_reducible refine r_forEi ?_
  | with_reducible refine r_lcTo ?_
  | with_reducible refine r_m1 ?_
  | with_reducible refine r_dget ?_
  | with_reducible refine r_din ?_
  | with_reducible refine r_dnotin ?_
  | with_reducible refine r_starC ?_
  | with_reducible refine r_callKS ?_
  | with_reducible refine r_itt ?_
  | with_reducible refine r_iff ?_
  | with_reducible refine r_ittN ?_
  | with_reducible refine r_iffN ?_
  | ((with_reducible refine r_ittD ?rh ?_); (case rh => rfl))
  | ((with_reducible refine r_iffD ?rh ?_); (case rh => rfl))
  | ((with_reducible refine r_modP ?rh ?_); (case rh => decide))
  | ((with_reducible refine r_eq ?rh ?_); (case rh => rfl))
  | ((with_reducible refine r_eqP ?rh ?_); (case rh => rfl))
  | ((with_reducible refine r_ne ?rh ?_); (case rh => rfl)))
local macro_rules | `(tactic| walk_at "rd") => `(tactic| repeat walk_at "rd1")
local macro_rules | `(tactic| walk_at "isi") => `(tactic| first | refine r_isi (b := true) (by assumption) (by decide +kernel) ?_ | refine r_isi (b := false) (by assumption) (by decide +kernel) ?_)
local macro_rules | `(tactic| walk_at "rs1") => `(tactic| first
  | with_reducible refine r_seq ?_
  | with_reducible refine r_asg ?_
  | with_reducible refine r_gname ?_
  | with_reducible refine r_ret ?_)
local macro_rules | `(tactic| walk_at "rs") => `(tactic| repeat walk_at "rs1")

section
variable {P : Program} {w : World} {K : PySem.W.Frag} {mg : Str → Option Value} {base : Heap}
def spRowOf (f : List Nat → Nat → List Nat) : Sp := fun vs H Q _ => ∃ (t : Addr) (T : List Nat) (j : Nat), vs = [.ref t, .int (j : Nat)] ∧ H t = some (.lst (tbv T)) ∧ j < T.length ∧ T.length ≤ 1000 ∧ ∀ p H', Ex H H' → H p = none → H' p = some (.lst (tbv (f T j))) → Q (.ref p) H'
theorem filter_take {f : Nat → Bool} {n i : Nat} : (List.range (i + 1)).filter f = (List.range i).filter f ++ (if f i then [i] else []) := by
  rw [List.range_succ, List.filter_append]
  congr 1
  cases h : f i <;> simp [h]
theorem filter_len {f : Nat → Bool} {i : Nat} : ((List.range i).filter f).length ≤ i := Nat.le_trans (List.length_filter_le ..) (by simp)
theorem ok_law_behind (T : Txt K mg) : FnOk P w K mg base CX0 1 T.a_law_behind T.d_law_behind ["_law_table", "_law_j"] (spRowOf bh) := by
  refine T.F_law_behind.ok sc_law_behind (fun vs H Q E h => ?_) (fun cdv A outer s H vs Q E hr h => ?_)
  · obtain ⟨t, U, j, rfl, _⟩ := h
    rfl
  · obtain ⟨t, U, j, rfl, ht, hj, hl, q⟩ := h
    refine ⟨_, (pss_one (ps_ret (pe_lc (own := [("_law_k", 2)]) (g := gName 2) rfl sc_law_behind.nd (pi_range1 (by rfl) T.n_range (pa_cons (pe_callB call_lenU (by rfl) T.n_len (by decide +kernel) (pa_cons (pv 0) pa_nil)) pa_nil)) (blkOk_by (N := N_law_behind) (sc := defScope s_law_behind) (by decide +kernel)) (fun _ _ _ _ _ => pg_name (i := 2) sc_law_behind.nd rfl (Or.inl rfl)) (fun _ _ _ _ _ => (pts_one (pt_cmpR (k_eqU (K := K) rfl hr.units) (pe_op op_and (pe_op op_shr (pe_ix (k_ix (K := K) rfl) (pv 0) (pv 1) (fun _ _ => rfl)) (pv 2)) pe_int) pe_int (nomark _)))) (fun _ _ _ _ _ => (pv 2))))), ?_⟩
    walk_at "rd"
    refine r_lenL (sqL ht) ?_
    walk_at "rd"
    rw [List.length_map]
    refine l_lcR (by omega) (by omega) (fun D i H' => Ex H H' ∧ H' D = some (.lst (tbv ((List.range i).filter fun k => (U.getD j 0).testBit k)))) (fun D hD => ⟨Same.new (Same.refl H) hD, upd_same⟩) (fun D i H' hD hi hP => ?_) (fun D H' hD hP => ?_)
    · obtain ⟨e, hd⟩ := hP
      walk_at "rd"
      refine ⟨rfl, ?_⟩
      walk_at "rd"
      refine r_ixL (sqL (e _ _ ht)) (atI_nat (tb_at hj)) ?_
      walk_at "rd"
      refine r_I (by omega) ?_
      walk_at "rd"
      rw [bit_val]
      refine r_iteB (fun hb => ?_) (fun hb => ?_)
      · walk_at "rd"
        refine ⟨_, hd, by rw [List.length_map]; exact Nat.lt_of_le_of_lt (Nat.le_trans filter_len (show i ≤ 1000 by omega)) (by decide), Same.mut e hD, ?_⟩
        rw [filter_take (n := 0), if_pos hb, upd_same, ← show tbv [i] = [V.int (i : Nat)] from rfl]
        exact congrArg (fun z => some (HO.lst z)) (List.map_append ..).symm
      · refine ⟨e, ?_⟩
        rw [filter_take (n := 0), hb, hd]
        simp
    · obtain ⟨e, hd⟩ := hP
      rw [Int.toNat_natCast] at hd
      exact q D H' e hD hd
theorem ok_law_ahead (T : Txt K mg) : FnOk P w K mg base CX0 1 T.a_law_ahead T.d_law_ahead ["_law_table", "_law_j"] (spRowOf ah) := by
  refine T.F_law_ahead.ok sc_law_ahead (fun vs H Q E h => ?_) (fun cdv A outer s H vs Q E hr h => ?_)
  · obtain ⟨t, U, j, rfl, _⟩ := h
    rfl
  · obtain ⟨t, U, j, rfl, ht, hj, hl, q⟩ := h
    refine ⟨_, (pss_one (ps_ret (pe_lc (own := [("_law_k", 2)]) (g := gName 2) rfl sc_law_ahead.nd (pi_range1 (by rfl) T.n_range (pa_cons (pe_callB call_lenU (by rfl) T.n_len (by decide +kernel) (pa_cons (pv 0) pa_nil)) pa_nil)) (blkOk_by (N := N_law_ahead) (sc := defScope s_law_ahead) (by decide +kernel)) (fun _ _ _ _ _ => pg_name (i := 2) sc_law_ahead.nd rfl (Or.inl rfl)) (fun _ _ _ _ _ => (pts_one (pt_cmpR (k_eqU (K := K) rfl hr.units) (pe_op op_and (pe_op op_shr (pe_ix (k_ix (K := K) rfl) (pv 0) (pv 2) (fun _ _ => rfl)) (pv 1)) pe_int) pe_int (nomark _)))) (fun _ _ _ _ _ => (pv 2))))), ?_⟩
    walk_at "rd"
    refine r_lenL (sqL ht) ?_
    walk_at "rd"
    rw [List.length_map]
    refine l_lcR (by omega) (by omega) (fun D i H' => Ex H H' ∧ H' D = some (.lst (tbv ((List.range i).filter fun k => (U.getD k 0).testBit j)))) (fun D hD => ⟨Same.new (Same.refl H) hD, upd_same⟩) (fun D i H' hD hi hP => ?_) (fun D H' hD hP => ?_)
    · obtain ⟨e, hd⟩ := hP
      walk_at "rd"
      refine ⟨rfl, ?_⟩
      walk_at "rd"
      refine r_ixL (sqL (e _ _ ht)) (atI_nat (tb_at (by omega))) ?_
      walk_at "rd"
      refine r_I (by omega) ?_
      walk_at "rd"
      rw [bit_val]
      refine r_iteB (fun hb => ?_) (fun hb => ?_)
      · walk_at "rd"
        refine ⟨_, hd, by rw [List.length_map]; exact Nat.lt_of_le_of_lt (Nat.le_trans filter_len (show i ≤ 1000 by omega)) (by decide), Same.mut e hD, ?_⟩
        rw [filter_take (n := 0), if_pos hb, upd_same, ← show tbv [i] = [V.int (i : Nat)] from rfl]
        exact congrArg (fun z => some (HO.lst z)) (List.map_append ..).symm
      · refine ⟨e, ?_⟩
        rw [filter_take (n := 0), hb, hd]
        simp
    · obtain ⟨e, hd⟩ := hP
      rw [Int.toNat_natCast] at hd
      exact q D H' e hD hd
theorem filter_step {f : Nat → Bool} {B : List Nat} {i k : Nat} (h : B[i]? = some k) : (B.take (i + 1)).filter f = (B.take i).filter f ++ (if f k then [k] else []) := by
  rw [List.take_add_one, h, List.filter_append]
  congr 1
  cases h : f k <;> simp [h]
theorem tb_get {B : List Nat} {i : Nat} {x : V} (h : (tbv B)[i]? = some x) : ∃ k, B[i]? = some k ∧ x = .int (k : Nat) := by
  rw [List.getElem?_map] at h
  obtain ⟨k, hk, rfl⟩ := Option.map_eq_some_iff.mp h
  exact ⟨k, hk, rfl⟩
theorem ok_law_close (T : Txt K mg) : FnOk P w K mg base CX0 2 T.a_law_close T.d_law_close ["_law_table", "_law_j"] (spRowOf cl) := by
  refine T.F_law_close.ok sc_law_close (fun vs H Q E h => ?_) (fun cdv A outer s H vs Q E hr h => ?_)
  · obtain ⟨t, U, j, rfl, _⟩ := h
    rfl
  · obtain ⟨t, U, j, rfl, ht, hj, hl, q⟩ := h
    refine ⟨_, (pss_cons (ps_set (i := 2) sc_law_close.nd rfl (Or.inl rfl) (pe_call (ok_law_behind T) hr (by rfl) T.g_law_behind T.F_law_behind.kp T.b_law_behind .nil pass0 (pa_cons (pv 0) (pa_cons (pv 1) pa_nil))))
        (pss_cons (ps_set (i := 3) sc_law_close.nd rfl (Or.inl rfl) (pe_lst pa_nil))
        (pss_cons (ps_for PassesOwn.never rfl (pi_list (pv 2)) (pg_name (i := 4) sc_law_close.nd rfl (Or.inr rfl)) (pss_one (ps_if (pt_cmpR (op_eqU hr.units) (pe_callB call_lenU (by rfl) T.n_len (by decide +kernel) (pa_cons (pe_lc (own := [("_law_m", 5)]) (g := gName 5) rfl sc_law_close.nd (pi_list (pv 2)) (blkOk_by (N := N_law_close) (sc := defScope s_law_close) (by decide +kernel)) (fun _ _ _ _ _ => pg_name (i := 5) sc_law_close.nd rfl (Or.inl rfl)) (fun _ _ _ _ _ => (pts_one (pt_cmpR (k_eqU (K := K) rfl hr.units) (pe_op op_and (pe_op op_shr (pe_ix (k_ix (K := K) rfl) (pv 0) (pv 5) (fun _ _ => rfl)) (pv 4)) pe_int) pe_int (nomark _)))) (fun _ _ _ _ _ => (pv 5))) pa_nil)) pe_int (nomark _)) (pss_one (ps_expr (pe_bm PySem.F.plainAttrs_list PySem.F.slot_list_append PySem.F.type_list_append mt_append (pv 3) (pa_cons (pv 4) pa_nil)))) pss_nil)))
        (pss_one (ps_ret (pv 3)))))), ?_⟩
    walk_at "rd"
    refine ⟨t, U, j, rfl, ht, hj, hl, fun p H1 e1 _ hp => ?_⟩
    have bl : (bh U j).length ≤ 1000 := Nat.le_trans filter_len hl
    walk_at "rd"
    refine r_small nsz fun f hf => ?_
    have hp2 : ∀ {H'}, Ex H1 H' → H' p = some (.lst (tbv (bh U j))) := fun e => e _ _ hp
    walk_at "rd"
    refine l_L (sqL (hp2 (Same.new (Same.refl H1) hf))) (fun i σ H' => ∃ z1 z2, σ = [some (.ref t), some (.int (j : Nat)), some (.ref p), some (.ref f), z1, z2] ∧ Ex H1 H' ∧ H' f = some (.lst (tbv (((bh U j).take i).filter fun k => ((bh U j).filter fun m => (U.getD m 0).testBit k).isEmpty)))) ⟨none, none, rfl, Same.new (Same.refl H1) hf, upd_same⟩ (fun i σ H' hW => ?_) (fun i x σ H' hx hW => ?_) (fun σ H' hW => ?_)
    · obtain ⟨_, _, _, e, _⟩ := hW
      exact sqL (hp2 e)
    · obtain ⟨z1, z2, rfl, e, hd⟩ := hW
      obtain ⟨k, hk, rfl⟩ := tb_get hx
      have hkT := (mem_bh.mp (List.mem_of_getElem? hk)).1
      have hi := (List.getElem?_eq_some_iff.mp hk).1
      walk_at "rd"
      refine l_lcL (sqL (hp2 e)) (fun D i H2 => Ex H' H2 ∧ H2 D = some (.lst (tbv (((bh U j).take i).filter fun m => (U.getD m 0).testBit k)))) (fun D hD => ⟨Same.new (Same.refl H') hD, upd_same⟩) (fun D i H2 hP => sqL (hp2 (e.trans hP.1))) (fun D i x H2 hD hx hP => ?_) (fun D H2 hD hP => ?_)
      · obtain ⟨e2, hd2⟩ := hP
        obtain ⟨m, hm, rfl⟩ := tb_get hx
        have hmT := (mem_bh.mp (List.mem_of_getElem? hm)).1
        walk_at "rd"
        refine ⟨rfl, ?_⟩
        walk_at "rd"
        refine r_ixL (sqL (e2 _ _ (e _ _ (e1 _ _ ht)))) (atI_nat (tb_at hmT)) ?_
        walk_at "rd"
        refine r_I (by omega) ?_
        walk_at "rd"
        rw [bit_val]
        refine r_iteB (fun hb => ?_) (fun hb => ?_)
        · walk_at "rd"
          refine ⟨_, hd2, by rw [List.length_map]; exact Nat.lt_of_le_of_lt (Nat.le_trans (List.length_filter_le ..) (Nat.le_trans (List.length_take_le' ..) bl)) (by decide), Same.mut e2 hD, ?_⟩
          rw [filter_step hm, if_pos hb, upd_same, ← show tbv [m] = [V.int (m : Nat)] from rfl]
          exact congrArg (fun z => some (HO.lst z)) (List.map_append ..).symm
        · refine ⟨e2, ?_⟩
          rw [filter_step hm, hb, hd2]
          simp
      · obtain ⟨e2, hd2⟩ := hP
        rw [List.length_map, List.take_length] at hd2
        walk_at "rd"
        refine r_lenL (sqL hd2) ?_
        walk_at "rd"
        rw [List.length_map]
        have hd3 := e2 _ _ hd
        refine r_ite (fun h0 => ?_) (fun h0 => ?_)
        · have hb : (((bh U j).filter fun m => (U.getD m 0).testBit k).isEmpty) = true := by
            rw [List.isEmpty_iff]
            have z := V.int.inj h0
            exact List.length_eq_zero_iff.mp (by omega)
          walk_at "rd"
          refine r_tyL (sqL hd3) ?_
          walk_at "rd"
          refine r_app hd3 (by rw [List.length_map]; exact Nat.lt_of_le_of_lt (Nat.le_trans (List.length_filter_le ..) (Nat.le_trans (List.length_take_le' ..) bl)) (by decide)) ?_
          walk_at "rd"
          refine ⟨_, _, rfl, Same.mut (e.trans e2) hf, ?_⟩
          rw [filter_step hk, if_pos hb, upd_same, ← show tbv [k] = [V.int (k : Nat)] from rfl]
          exact congrArg (fun z => some (HO.lst z)) (List.map_append ..).symm
        · have hb : (((bh U j).filter fun m => (U.getD m 0).testBit k).isEmpty) = false := by
            rw [Bool.eq_false_iff]
            intro z
            rw [List.isEmpty_iff] at z
            exact h0 (by rw [z]; rfl)
          walk_at "rd"
          refine ⟨_, _, rfl, e.trans e2, ?_⟩
          rw [filter_step hk, hb, hd3]
          simp
    · obtain ⟨z1, z2, rfl, e, hd⟩ := hW
      rw [List.length_map, List.take_length] at hd
      walk_at "rd"
      exact q f H' (e1.trans e) (e1.free hf) hd
end

end K23

namespace K23
open PySem PySem.Spec PyProof.Rows L2 Dk Tl
/-- one step of a reading -/
local macro_rules | `(tactic| walk_at "rd1") => `(tactic| first
  | ((with_reducible refine r_var (v := ?rv) ?rh ?_); (case rh => rfl))
  | with_reducible refine r_c ?_
  | with_reducible refine r_seq ?_
  | with_reducible refine r_asg ?_
  | with_reducible refine r_par ?_
  | with_reducible refine r_gname ?_
  | with_reducible refine r_op ?_
  | with_reducible refine r_forLo ?_
  | with_reducible refine r_forTo ?_
  | with_reducible refine r_forSo ?_
  | with_reducible refine r_forRo ?_
  | with_reducible refine r_forRvo ?_
  | with_reducible refine r_forZo ?_
  | with_reducible refine r_revS ?_
  | with_reducible refine r_lcRo ?_
  | with_reducible refine r_lcLo ?_
  | with_reducible refine r_yes ?_
  | with_reducible refine r_callK0 ?_
  | with_reducible refine r_break ?_
  | with_reducible refine r_forR2o ?_
  | with_reducible refine r_forEo ?_
  | with_reducible refine r_forESo ?_
  | with_reducible refine r_xfo ?_
  | with_reducible refine r_noP ?_
  | with_reducible refine r_part ?_
  | with_reducible refine r_pI ?_
  | with_reducible refine r_gcons ?_
  | with_reducible refine r_gnil ?_
  | with_reducible refine r_mkO ?_
  | with_reducible refine r_un ?_
  | with_reducible refine r_addI ?_
  | with_reducible refine r_I0 ?_
  | with_reducible refine r_U ?_
  | with_reducible refine r_cons ?_
  | with_reducible refine r_nil ?_
  | with_reducible refine r_CB ?_
  | with_reducible refine r_call ?_
  | with_reducible refine r_callS ?_
  | with_reducible refine r_int ?_
  | with_reducible refine r_max ?_
  | with_reducible refine r_min ?_
  | with_reducible refine r_test ?_
  | with_reducible refine r_B ?_
  | with_reducible refine r_blv ?_
  | with_reducible refine r_and ?_
  | with_reducible refine r_or ?_
  | with_reducible refine r_not ?_
  | with_reducible refine r_andV ?_
  | with_reducible refine r_orV ?_
  | with_reducible refine r_notV ?_
  | with_reducible refine r_ifE ?_
  | with_reducible refine r_ifS ?_
  | with_reducible refine r_ret ?_
  | with_reducible refine r_retN ?_
  | with_reducible refine r_drop ?_
  | with_reducible refine r_next ?_
  | with_reducible refine r_sl ?_
  | with_reducible refine r_gsub ?_
  | with_reducible refine r_bm ?_
  | with_reducible refine r_tup ?_
  | with_reducible refine r_lst ?_
  | with_reducible refine r_isN ?_
  | with_reducible refine r_notN ?_
  | with_reducible refine r_chain ?_
  | with_reducible refine r_lcEio ?_
  | with_reducible refine r_forEi ?_
  | with_reducible refine r_lcTo ?_
  | with_reducible refine r_m1 ?_
  | with_reducible refine r_dget ?_
  | with_reducible refine r_din ?_
  | with_reducible refine r_dnotin ?_
  | with_reducible refine r_starC ?_
  | with_reducible refine r_callKS ?_
  | with_reducible refine r_itt ?_
  | with_reducible refine r_iff ?_
  | with_reducible refine r_ittN ?_
  | with_reducible refine r_iffN ?_
  | ((with_reducible refine r_ittD ?rh ?_); (case rh => rfl))
  | ((with_reducible refine r_iffD ?rh ?_); (case rh => rfl))
  | ((with_reducible refine r_modP ?rh ?_); (case rh => decide))
  | ((with_reducible refine r_eq ?rh ?_); (case rh => rfl))
  | ((with_reducible refine r_eqP ?rh ?_); (case rh => rfl))
  | ((with_reducible refine r_ne ?rh ?_); (case rh => rfl)))
local macro_rules | `(tactic| walk_at "rd") => `(tactic| repeat walk_at "rd1")
local macro_rules | `(tactic| walk_at "isi") => `(tactic| first | refine r_isi (b := true) (by assumption) (by decide +kernel) ?_ | refine r_isi (b := false) (by assumption) (by decide +kernel) ?_)
local macro_rules | `(tactic| walk_at "rs1") => `(tactic| first
  | with_reducible refine r_seq ?_
  | with_reducible refine r_asg ?_
  | with_reducible refine r_gname ?_
  | with_reducible refine r_ret ?_)
local macro_rules | `(tactic| walk_at "rs") => `(tactic| repeat walk_at "rs1")

/-- where a drawing def stands: from G0 H0 on -/
structure Wk (b h : Addr) (G0 H0 G H : Hp) : Prop where
  t : Gr (A2 b h) G0 H0 G H
  w : W2 b h G H
section
variable {b h p : Addr} {G0 H0 G H G1 H1 : Hp} {o : HO}
theorem Wk.start (w : W2 b h G H) : Wk b h G H G H := ⟨Gr.refl w.g, w⟩
theorem Wk.dr (k : Wk b h G0 H0 G H) (d : Dr2 b h H H1) : Wk b h G0 H0 G H1 := ⟨k.t.trans (k.w.gdr d), k.w.dr d⟩
theorem Wk.sub (k : Wk b h G0 H0 G H) (t : Gr (A2 b h) G H G1 H1) (s : Bx H1 b h) : Wk b h G0 H0 G1 H1 := ⟨k.t.trans t, k.w.step t s⟩
theorem Wk.pure (k : Wk b h G0 H0 G H) (t : Gr A0 G H G1 H1) : Wk b h G0 H0 G1 H1 := ⟨k.t.trans t.of0, k.w.pure t⟩
theorem Gr.ex {A : Addr → Prop} (g : Ex G H) (e : Ex H H1) : Gr A G H G H1 :=
  ⟨Same.refl _, g.trans e, fun b o _ h => e b o h, fun b o h => ⟨o, e b o h⟩, fun b o h h' => h'⟩
theorem Wk.ex (k : Wk b h G0 H0 G H) (e : Ex H H1) : Wk b h G0 H0 G H1 := k.pure (Gr.ex k.w.g e)
theorem Wk.know (k : Wk b h G0 H0 G H) (e : Ex H H1) (hp : H p = none) (hp1 : H1 p = some o) : ∃ G1, Wk b h G0 H0 G1 H1 ∧ G1 p = some o ∧ Ex G G1 := by
  have t : Gr A0 G H (upd G p o) H1 := (Gr.ex k.w.g e).give hp hp1 (k.w.g.free hp)
  exact ⟨_, k.pure t, upd_same, t.gg⟩
theorem Wk.new (k : Wk b h G0 H0 G H) (hp : H p = none) (o : HO) : ∃ G1 H1, H1 = upd H p o ∧ Wk b h G0 H0 G1 H1 ∧ G1 p = some o ∧ Ex G G1 := by
  obtain ⟨G1, H1, k1, s1, h1⟩ := new_ex k.w.g hp o
  exact ⟨G1, H1, k1, k.pure s1, h1, s1.gg⟩
theorem Wk.g (k : Wk b h G0 H0 G H) (e : G p = some o) : H p = some o := k.w.g _ _ e
end
section
variable {P : Program} {w : World} {K : PySem.W.Frag} {mg : Str → Option Value} {base : Heap}
def spPair : Sp := fun vs H Q _ => ∃ (b h t : Addr) (L R : Nat → Sg) (sz : Nat → Nat) (n : Nat) (U : List Nat) (m : Int) (G : Hp), vs = [.ref b, .ref t, .int m] ∧ W2 b h G H ∧ G t = some (.lst (tbv U)) ∧ Wv L R sz n ∧ Tells L R sz n U ∧ U.length ≤ 1000 ∧
  ∀ q G' H' x y, Wk b h G H G' H' → G' q = some (.tup [.int (x : Nat), .int (y : Nat)]) → x < U.length → y < U.length → Bit U x y → Q (.ref q) H'
theorem ok_law_pair (T : Txt K mg) : FnOk P w K mg base CX0 3 T.a_law_pair T.d_law_pair ["_law_box", "_law_table", "_law_mode"] spPair := by
  refine T.F_law_pair.ok sc_law_pair (fun vs H Q E h => ?_) (fun cdv A outer s H vs Q E hr h => ?_)
  · obtain ⟨b, h, t, L, R, sz, n, U, m, G, rfl, _⟩ := h
    rfl
  · obtain ⟨b, h, t, L, R, sz, n, U, m, G, rfl, w2, ht, wv, tl, ul, q⟩ := h
    refine ⟨_, (pss_cons (ps_set (i := 3) sc_law_pair.nd rfl (Or.inl rfl) (pe_callB call_lenU (by rfl) T.n_len (by decide +kernel) (pa_cons (pv 1) pa_nil)))
        (Evl.pss_cut (ps_if (PW.pt (pw_or (pt_cmpR op_gt (pv 2) pe_int (nomark _)) (pw_or1 (PW.pt (pw_and (PW.pt (pw_or (pt_cmpR (op_eqU hr.units) (pv 2) pe_int (nomark _)) (pw_or1 (pt_cmpR (op_eqU hr.units) (pv 2) pe_int (nomark _))))) (pw_and1 (pt_cmpR op_gt (pe_call (ok_law_pick T) (hr.mono (by decide)) (by rfl) T.g_law_pick T.F_law_pick.kp T.b_law_pick .nil pass0 (pa_cons (pv 0) (pa_cons pe_int pa_nil))) pe_int (nomark _)))))))) (pss_cons (ps_set (i := 4) sc_law_pair.nd rfl (Or.inl rfl) (pe_op op_sub (pv 3) pe_int))
        (pss_cons (ps_set (i := 5) sc_law_pair.nd rfl (Or.inl rfl) (pe_call (ok_law_ahead T) (hr.mono (by decide)) (by rfl) T.g_law_ahead T.F_law_ahead.kp T.b_law_ahead .nil pass0 (pa_cons (pv 1) (pa_cons (pv 4) pa_nil))))
        (pss_cons (ps_set (i := 6) sc_law_pair.nd rfl (Or.inl rfl) (pe_call (ok_law_behind T) (hr.mono (by decide)) (by rfl) T.g_law_behind T.F_law_behind.kp T.b_law_behind .nil pass0 (pa_cons (pv 1) (pa_cons (pv 4) pa_nil))))
        (pss_cons (ps_set (i := 7) sc_law_pair.nd rfl (Or.inl rfl) (pe_or (pe_cmpR op_gt (pv 2) pe_int (nomark _)) (pe_one (pe_cmpR op_gt (pe_call (ok_law_pick T) (hr.mono (by decide)) (by rfl) T.g_law_pick T.F_law_pick.kp T.b_law_pick .nil pass0 (pa_cons (pv 0) (pa_cons pe_int pa_nil))) pe_int (nomark _)))))
        (pss_cons (ps_if (PW.pt (pw_and (pt_cmpR op_gt (pe_callB call_lenU (by rfl) T.n_len (by decide +kernel) (pa_cons (pv 5) pa_nil)) pe_int (nomark _)) (pw_and1 (PW.pt (pw_or (pt_cmpR (op_eqU hr.units) (pv 7) (pe_or (pe_cmpR (op_eqU hr.units) (pv 2) pe_int (nomark _)) (pe_one (pe_cmpR (op_eqU hr.units) (pv 2) pe_int (nomark _)))) (nomark _)) (pw_or1 (pt_cmpR (op_eqU hr.units) (pe_callB call_lenU (by rfl) T.n_len (by decide +kernel) (pa_cons (pv 6) pa_nil)) pe_int (nomark _)))))))) (pss_one (ps_ret (pe_tup (pa_cons (pe_ix ix_seq (pv 5) (pe_call (ok_law_pick T) (hr.mono (by decide)) (by rfl) T.g_law_pick T.F_law_pick.kp T.b_law_pick .nil pass0 (pa_cons (pv 0) (pa_cons (pe_callB call_lenU (by rfl) T.n_len (by decide +kernel) (pa_cons (pv 5) pa_nil)) pa_nil))) (fun _ _ => rfl)) (pa_cons (pv 4) pa_nil))))) pss_nil)
        (pss_one (ps_if (pt_cmpR op_gt (pe_callB call_lenU (by rfl) T.n_len (by decide +kernel) (pa_cons (pv 6) pa_nil)) pe_int (nomark _)) (pss_one (ps_ret (pe_tup (pa_cons (pv 4) (pa_cons (pe_ix ix_seq (pv 6) (pe_call (ok_law_pick T) (hr.mono (by decide)) (by rfl) T.g_law_pick T.F_law_pick.kp T.b_law_pick .nil pass0 (pa_cons (pv 0) (pa_cons (pe_callB call_lenU (by rfl) T.n_len (by decide +kernel) (pa_cons (pv 6) pa_nil)) pa_nil))) (fun _ _ => rfl)) pa_nil))))) pss_nil))))))) pss_nil)
        (Evl.pss_cut (ps_if (PW.pt (pw_and (pt_cmpR (op_eqU hr.units) (pv 2) pe_int (nomark _)) (pw_and1 (pt_cmpR op_gt (pe_call (ok_law_pick T) (hr.mono (by decide)) (by rfl) T.g_law_pick T.F_law_pick.kp T.b_law_pick .nil pass0 (pa_cons (pv 0) (pa_cons pe_int pa_nil))) pe_int (nomark _))))) (pss_one (ps_ret (pe_tup (pa_cons pe_int (pa_cons pe_int pa_nil))))) pss_nil)
        (pss_cons (ps_set (i := 8) sc_law_pair.nd rfl (Or.inl rfl) (pe_call (ok_law_pick T) (hr.mono (by decide)) (by rfl) T.g_law_pick T.F_law_pick.kp T.b_law_pick .nil pass0 (pa_cons (pv 0) (pa_cons (pv 3) pa_nil))))
        (Evl.pss_cut (ps_if (pt_cmpR (op_eqU hr.units) (pe_callB call_lenU (by rfl) T.n_len (by decide +kernel) (pa_cons (pe_call (ok_law_behind T) (hr.mono (by decide)) (by rfl) T.g_law_behind T.F_law_behind.kp T.b_law_behind .nil pass0 (pa_cons (pv 1) (pa_cons (pv 8) pa_nil))) pa_nil)) pe_int (nomark _)) (pss_one (ps_set (i := 8) sc_law_pair.nd rfl (Or.inl rfl) pe_int)) pss_nil)
        (pss_cons (ps_set (i := 6) sc_law_pair.nd rfl (Or.inl rfl) (pe_call (ok_law_behind T) (hr.mono (by decide)) (by rfl) T.g_law_behind T.F_law_behind.kp T.b_law_behind .nil pass0 (pa_cons (pv 1) (pa_cons (pv 8) pa_nil))))
        (Evl.pss_cut (ps_if (PW.pt (pw_and (pt_cmpR (op_eqU hr.units) (pv 2) pe_int (nomark _)) (pw_and1 (pt_cmpR op_gt (pe_call (ok_law_pick T) (hr.mono (by decide)) (by rfl) T.g_law_pick T.F_law_pick.kp T.b_law_pick .nil pass0 (pa_cons (pv 0) (pa_cons pe_int pa_nil))) pe_int (nomark _))))) (pss_one (ps_set (i := 6) sc_law_pair.nd rfl (Or.inl rfl) (pe_call (ok_law_close T) hr (by rfl) T.g_law_close T.F_law_close.kp T.b_law_close .nil pass0 (pa_cons (pv 1) (pa_cons (pv 8) pa_nil))))) pss_nil)
        (pss_one (ps_ret (pe_tup (pa_cons (pv 8) (pa_cons (pe_ix ix_seq (pv 6) (pe_call (ok_law_pick T) (hr.mono (by decide)) (by rfl) T.g_law_pick T.F_law_pick.kp T.b_law_pick .nil pass0 (pa_cons (pv 0) (pa_cons (pe_callB call_lenU (by rfl) T.n_len (by decide +kernel) (pa_cons (pv 6) pa_nil)) pa_nil))) (fun _ _ => rfl)) pa_nil)))))))))))), ?_⟩
    obtain ⟨b0, one⟩ := tl.bh0 wv
    have k0 := Wk.start w2
    have htG : ∀ {G'}, Ex G G' → G' t = some (.lst (tbv U)) := fun e => e _ _ ht
    have pickd : ∀ {C : List Nat} {d : Int}, 0 ≤ d → d < (C.length : Nat) → ∃ k, atI (tbv C) d = some (.int (k : Nat)) ∧ k ∈ C := fun {C d} d0 d1 => by
      have hd : d.toNat < C.length := by omega
      have e : (tbv C)[d.toNat]? = some (.int ((C[d.toNat] : Nat) : Int)) := by
        rw [List.getElem?_map, List.getElem?_eq_getElem hd]
        rfl
      exact ⟨C[d.toNat], at_g (by omega) e, List.getElem_mem _⟩
    walk_at "rd"
    refine r_lenL (sqL (k0.g ht)) ?_
    rw [List.length_map]
    walk_at "rs"
    refine ⟨fun σ H' => ∃ y4 y5 y6 y7 y8 G1, σ = [some (.ref b), some (.ref t), some (.int m), some (.int (U.length : Nat)), y4, y5, y6, y7, y8] ∧ Wk b h G H G1 H', ?_, ?_⟩
    · refine r_ifS ?_
      refine any_test (S := fun _ H1 => Dr2 b h H H1) (fun QB k => ?_) (fun c H1 D => ?_)
      · have rf : Dr2 b h H H := Dr2.refl w2.st
        walk_at "rd"
        refine r_ite (fun _ => k _ _ rf) (fun _ => ?_)
        walk_at "rd"
        refine r_ite (fun _ => ?_) (fun _ => ?_)
        · walk_at "rd"
          refine ⟨b, h, 4, rfl, w2.st, by decide, by decide, fun d H1 d0 d1 D1 => ?_⟩
          walk_at "rd"
          exact k _ _ D1
        · walk_at "rd"
          refine r_ite (fun _ => ?_) (fun _ => k _ _ rf)
          walk_at "rd"
          refine ⟨b, h, 4, rfl, w2.st, by decide, by decide, fun d H1 d0 d1 D1 => ?_⟩
          walk_at "rd"
          exact k _ _ D1
      · have k1 := k0.dr D
        refine r_iteB (fun _ => ?_) (fun _ => ?_)
        · walk_at "rd"
          have hnew : ((U.length : Nat) - 1 : Int) = ((U.length - 1 : Nat) : Int) := by omega
          rw [hnew]
          refine ⟨t, U, U.length - 1, rfl, k1.g ht, by omega, ul, fun p1 H2 e2 hp2 hp2' => ?_⟩
          obtain ⟨G2, k2, g2, eG2⟩ := k1.know e2 hp2 hp2'
          walk_at "rd"
          refine ⟨t, U, U.length - 1, rfl, k2.g (htG eG2), by omega, ul, fun p2 H3 e3 hp3 hp3' => ?_⟩
          obtain ⟨G3, k3, g3, eG3⟩ := k2.know e3 hp3 hp3'
          have g2' := eG3 _ _ g2
          have al : (ah U (U.length - 1)).length ≤ 1000 := Nat.le_trans filter_len ul
          have bl : (bh U (U.length - 1)).length ≤ 1000 := Nat.le_trans filter_len ul
          walk_at "rs"
          refine any_val (S := fun v H2 => ∃ c, v = .bl c ∧ Dr2 b h H3 H2) (fun Q k => ?_) (fun v H4 hv => ?_)
          · walk_at "rd"
            refine r_ite (fun _ => k _ _ ⟨true, rfl, Dr2.refl k3.w.st⟩) (fun _ => ?_)
            walk_at "rd"
            refine ⟨b, h, 3, rfl, k3.w.st, by decide, by decide, fun d H1 d0 d1 D1 => ?_⟩
            walk_at "rd"
            exact k _ _ ⟨_, rfl, D1⟩
          obtain ⟨c1, rfl, D4⟩ := hv
          have k4 := k3.dr D4
          walk_at "rs"
          refine r_ifS ?_
          refine any_test (S := fun c H2 => H2 = H4 ∧ (c = true → 0 < (ah U (U.length - 1)).length)) (fun QB k => ?_) (fun c H5 hc => ?_)
          · walk_at "rd"
            refine r_lenL (sqL (k4.g g2')) ?_
            walk_at "rd"
            rw [List.length_map]
            refine r_ite (fun hl => ?_) (fun hl => k _ _ ⟨rfl, fun z => nomatch z⟩)
            have hl' : 0 < (ah U (U.length - 1)).length := by omega
            have fin : ∀ c, QB c H4 := fun c => k _ _ ⟨rfl, fun _ => hl'⟩
            have two : ∀ c : Bool, (if c = true then QB true H4 else QB (decide (V.int ((bh U (U.length - 1)).length : Nat) = V.int 0)) H4) := fun c => r_iteB (fun _ => fin _) (fun _ => fin _)
            walk_at "rd"
            refine r_ite (fun _ => ?_) (fun _ => ?_)
            · walk_at "rd"
              refine r_iteB (fun _ => fin _) (fun _ => ?_)
              walk_at "rd"
              refine r_lenL (sqL (k4.g g3)) ?_
              walk_at "rd"
              exact fin _
            · walk_at "rd"
              refine r_iteB (fun _ => fin _) (fun _ => ?_)
              walk_at "rd"
              refine r_lenL (sqL (k4.g g3)) ?_
              walk_at "rd"
              exact fin _
          obtain ⟨rfl, hc⟩ := hc
          refine r_iteB (fun hc' => ?_) (fun _ => ?_)
          · have hl := hc hc'
            walk_at "rd"
            refine r_lenL (sqL (k4.g g2')) ?_
            rw [List.length_map]
            walk_at "rd"
            refine ⟨b, h, ((ah U (U.length - 1)).length : Nat), rfl, k4.w.st, by omega, by omega, fun d H6 d0 d1 D6 => ?_⟩
            have k6 := k4.dr D6
            obtain ⟨k, hk, hkC⟩ := pickd d0 d1
            walk_at "rd"
            refine r_ixL (sqL (k6.g g2')) hk ?_
            walk_at "rd"
            refine r_small nsz fun p hp => ?_
            obtain ⟨G8, H8, e8, k8, h8, eG8⟩ := k6.new hp (.tup [.int (k : Nat), .int (U.length - 1 : Nat)])
            rw [← e8]
            have hm := mem_ah.mp hkC
            exact q p G8 H8 k (U.length - 1) k8 h8 hm.1 (by omega) hm.2
          · walk_at "rd"
            refine r_lenL (sqL (k4.g g3)) ?_
            walk_at "rd"
            rw [List.length_map]
            refine r_ite (fun hl => ?_) (fun hl => ?_)
            · walk_at "rd"
              refine r_lenL (sqL (k4.g g3)) ?_
              rw [List.length_map]
              walk_at "rd"
              refine ⟨b, h, ((bh U (U.length - 1)).length : Nat), rfl, k4.w.st, by omega, by omega, fun d H6 d0 d1 D6 => ?_⟩
              have k6 := k4.dr D6
              obtain ⟨k, hk, hkC⟩ := pickd d0 d1
              walk_at "rd"
              refine r_ixL (sqL (k6.g g3)) hk ?_
              walk_at "rd"
              refine r_small nsz fun p hp => ?_
              obtain ⟨G8, H8, e8, k8, h8, eG8⟩ := k6.new hp (.tup [.int (U.length - 1 : Nat), .int (k : Nat)])
              rw [← e8]
              have hm := mem_bh.mp hkC
              exact q p G8 H8 (U.length - 1) k k8 h8 (by omega) hm.1 hm.2
            · walk_at "rd"
              exact ⟨_, _, _, _, _, G3, rfl, k4⟩
        · walk_at "rd"
          exact ⟨_, _, _, _, _, G, rfl, k1⟩
    · rintro σ H1 ⟨y4, y5, y6, y7, y8, G1, rfl, k1⟩
      have eG1 := k1.t.gg
      walk_at "rs"
      refine ⟨fun σ H' => ∃ y4 y5 y6 y7 y8 G1, σ = [some (.ref b), some (.ref t), some (.int m), some (.int (U.length : Nat)), y4, y5, y6, y7, y8] ∧ Wk b h G H G1 H', ?_, ?_⟩
      · refine r_ifS ?_
        refine any_test (S := fun _ H2 => Dr2 b h H1 H2) (fun QB k => ?_) (fun c H2 D => ?_)
        · have rf : Dr2 b h H1 H1 := Dr2.refl k1.w.st
          walk_at "rd"
          refine r_ite (fun _ => ?_) (fun _ => k _ _ rf)
          walk_at "rd"
          refine ⟨b, h, 4, rfl, k1.w.st, by decide, by decide, fun d H1 d0 d1 D1 => ?_⟩
          walk_at "rd"
          exact k _ _ D1
        · have k2 := k1.dr D
          refine r_iteB (fun _ => ?_) (fun _ => ?_)
          · walk_at "rd"
            refine r_small nsz fun p hp => ?_
            obtain ⟨G3, H3, e3, k3, h3, eG3⟩ := k2.new hp (.tup [.int 0, .int 1])
            rw [← e3]
            refine q p G3 H3 0 1 k3 h3 (by omega) one ?_
            have o0 : Ok sz n (0, 0) := ⟨wv.n0, by show 0 < sz 0; rw [wv.s0]; decide⟩
            have o1 : Ok sz n (0, 1) := ⟨wv.n0, by show 1 < sz 0; rw [wv.s0]; decide⟩
            exact (tl.2 (0, 0) (0, 1) o0 o1).mpr (.same rfl (by decide))
          · walk_at "rd"
            exact ⟨_, _, _, _, _, G1, rfl, k2⟩
      rintro σ H2 ⟨z4, z5, z6, z7, z8, G2, rfl, k2⟩
      have eG2 := k2.t.gg
      walk_at "rd"
      refine ⟨b, h, (U.length : Nat), rfl, k2.w.st, by omega, by omega, fun d H3 d0 d1 D3 => ?_⟩
      have k3 := k2.dr D3
      obtain ⟨j, rfl⟩ : ∃ j : Nat, d = (j : Nat) := ⟨d.toNat, by omega⟩
      walk_at "rs"
      refine ⟨fun σ H' => ∃ j G1, σ = [some (.ref b), some (.ref t), some (.int m), some (.int (U.length : Nat)), z4, z5, z6, z7, some (.int (j : Nat))] ∧ Wk b h G H G1 H' ∧ j < U.length ∧ bh U j ≠ [], ?_, ?_⟩
      · walk_at "rd"
        refine ⟨t, U, j, rfl, k3.g (htG eG2), by omega, ul, fun p1 H4 e4 hp4 hp4' => ?_⟩
        have k4 := k3.ex e4
        walk_at "rd"
        refine r_lenL (sqL hp4') ?_
        walk_at "rd"
        rw [List.length_map]
        refine r_ite (fun h0 => ?_) (fun h0 => ?_)
        · walk_at "rd"
          exact ⟨0, G2, rfl, k4, by omega, b0⟩
        · walk_at "rd"
          exact ⟨j, G2, rfl, k4, by omega, fun z => h0 (by rw [z]; rfl)⟩
      rintro σ H4 ⟨j, G4, rfl, k4, hj, hb⟩
      have eG4 := k4.t.gg
      walk_at "rd"
      refine ⟨t, U, j, rfl, k4.g (htG eG4), by omega, ul, fun p5 H5 e5 hp5 hp5' => ?_⟩
      obtain ⟨G5, k5, g5, eG5⟩ := k4.know e5 hp5 hp5'
      walk_at "rs"
      refine ⟨fun σ H' => ∃ p G1 C, σ = [some (.ref b), some (.ref t), some (.int m), some (.int (U.length : Nat)), z4, z5, some (.ref p), z7, some (.int (j : Nat))] ∧ Wk b h G H G1 H' ∧ G1 p = some (.lst (tbv C)) ∧ C ≠ [] ∧ C.length ≤ 1000 ∧ ∀ k ∈ C, k ∈ bh U j, ?_, ?_⟩
      · refine r_ifS ?_
        refine any_test (S := fun _ H2 => Dr2 b h H5 H2) (fun QB k => ?_) (fun c H2 D => ?_)
        · have rf : Dr2 b h H5 H5 := Dr2.refl k5.w.st
          walk_at "rd"
          refine r_ite (fun _ => ?_) (fun _ => k _ _ rf)
          walk_at "rd"
          refine ⟨b, h, 3, rfl, k5.w.st, by decide, by decide, fun d H1 d0 d1 D1 => ?_⟩
          walk_at "rd"
          exact k _ _ D1
        · have k6 := k5.dr D
          refine r_iteB (fun _ => ?_) (fun _ => ?_)
          · walk_at "rd"
            refine ⟨t, U, j, rfl, k6.g (htG (eG4.trans eG5)), by omega, ul, fun p7 H7 e7 hp7 hp7' => ?_⟩
            obtain ⟨G7, k7, g7, eG7⟩ := k6.know e7 hp7 hp7'
            walk_at "rd"
            exact ⟨p7, G7, cl U j, rfl, k7, g7, tl.cl_ne wv hj hb, Nat.le_trans (List.length_filter_le ..) (Nat.le_trans filter_len ul), fun k hk => cl_sub hk⟩
          · walk_at "rd"
            exact ⟨p5, G5, bh U j, rfl, k6, g5, hb, Nat.le_trans filter_len ul, fun k hk => hk⟩
      rintro σ H6 ⟨p6, G6, C, rfl, k6, g6, hC, cl2, hsub⟩
      have cl1 : 0 < C.length := List.length_pos_iff.mpr hC
      walk_at "rd"
      refine r_lenL (sqL (k6.g g6)) ?_
      rw [List.length_map]
      walk_at "rd"
      refine ⟨b, h, (C.length : Nat), rfl, k6.w.st, by omega, by omega, fun d H7 d0 d1 D7 => ?_⟩
      have k7 := k6.dr D7
      obtain ⟨k, hk, hkC⟩ := pickd d0 d1
      walk_at "rd"
      refine r_ixL (sqL (k7.g g6)) hk ?_
      walk_at "rd"
      refine r_small nsz fun p hp => ?_
      obtain ⟨G8, H8, e8, k8, h8, eG8⟩ := k7.new hp (.tup [.int (j : Nat), .int (k : Nat)])
      rw [← e8]
      have hm := mem_bh.mp (hsub k hkC)
      exact q p G8 H8 j k k8 h8 hj hm.1 hm.2
end

end K23

/-! stands and cuts as plain data -/
namespace Wd
open PySem PySem.Spec PyProof.Rows L2 Dk Tl
theorem shl_cast (b : Nat) : (1 * 2 ^ ((b : Int)).toNat : Int) = ((1 <<< b : Nat) : Int) := by
  rw [Int.toNat_natCast, Nat.one_shiftLeft]
  push_cast
  omega
theorem xor_val (x b : Nat) : Builtin.bitXor (x : Int) (1 * 2 ^ ((b : Int)).toNat) = ((x ^^^ 1 <<< b : Nat) : Int) := by
  rw [shl_cast, Bits.bitXor_pp (Int.natCast_nonneg _) (Int.natCast_nonneg _), Int.toNat_natCast, Int.toNat_natCast]
theorem or1_val (x b : Nat) : Builtin.bitOr (x : Int) (1 * 2 ^ ((b : Int)).toNat) = ((x ||| 1 <<< b : Nat) : Int) := by
  rw [shl_cast, Bits.bitOr_pp (Int.natCast_nonneg _) (Int.natCast_nonneg _), Int.toNat_natCast, Int.toNat_natCast]
theorem bit_shl (b k : Nat) : (1 <<< b).testBit k = decide (k = b) := by
  rw [Nat.one_shiftLeft, Nat.testBit_two_pow]
  by_cases h : b = k
  · subst h; simp
  · simp [h, Ne.symm h]
theorem bits_le {s n k : Nat} (h : s < 2 ^ n) (hk : s.testBit k = true) : k < n := by
  rcases Nat.lt_or_ge k n with z | z
  · exact z
  · have := Nat.testBit_lt_two_pow (Nat.lt_of_lt_of_le h (Nat.pow_le_pow_right (by decide) z))
    rw [this] at hk
    cases hk
theorem intBits_lt {s : Nat} {k : Nat} (h : s.testBit k = true) : k < Builtin.Int.intBits (s : Int) := by
  unfold Builtin.Int.intBits
  have s0 : s ≠ 0 := fun z => by rw [z, Nat.zero_testBit] at h; cases h
  rw [if_neg (by simpa using s0), Int.natAbs_natCast]
  have h2 := Nat.ge_two_pow_of_testBit h
  rcases Nat.lt_or_ge s.log2 k with z | z
  · exact absurd ((Nat.log2_lt s0).mp z) (by omega)
  · omega
theorem intBits_le {s n : Nat} (h : s < 2 ^ n) : Builtin.Int.intBits (s : Int) ≤ n := by
  unfold Builtin.Int.intBits
  by_cases s0 : s = 0
  · subst s0; simp
  · rw [if_neg (by simpa using s0), Int.natAbs_natCast]
    exact (Nat.log2_lt s0).mpr h
/-- the deeds of a stand -/
def deedsOf (s : Nat) : List Nat := (List.range 300).filter fun d => s.testBit d
theorem deeds_any {s n : Nat} (h : s < 2 ^ 300) (hn : ∀ k, s.testBit k = true → k < n) : (List.range n).filter (fun d => s.testBit d) = deedsOf s := by
  unfold deedsOf
  have key : ∀ m n : Nat, (∀ k, s.testBit k = true → k < n) → n ≤ m → (List.range m).filter (fun d => s.testBit d) = (List.range n).filter (fun d => s.testBit d) := by
    intro m n hn hmn
    obtain ⟨k, rfl⟩ : ∃ k, m = n + k := ⟨m - n, by omega⟩
    rw [List.range_add, List.filter_append]
    have : (List.filter (fun d => s.testBit d) ((List.range k).map (n + ·))) = [] := by
      rw [List.filter_eq_nil_iff]
      intro a ha hb
      obtain ⟨b, _, rfl⟩ := List.mem_map.mp ha
      have := hn _ hb
      omega
    rw [this, List.append_nil]
  have h3 : ∀ k, s.testBit k = true → k < 300 := fun k hk => bits_le h hk
  rcases Nat.le_total n 300 with z | z
  · exact (key 300 n hn z).symm
  · exact key n 300 h3 z
/-! ### cuts -/
abbrev Tri := Nat × Nat × Nat
def TrV (K : PySem.W.Frag) (H : Hp) (v : V) (x : Tri) : Prop := ∃ p, v = .ref p ∧ Tu K H p [.int (x.1 : Nat), .int (x.2.1 : Nat), .int (x.2.2 : Nat)]
instance {K : PySem.W.Frag} : Imm (TrV K) := ⟨fun t h => h.imp fun p z => ⟨z.1, z.2.tk t⟩⟩
abbrev StV (K : PySem.W.Frag) := TupV K (TrV K)
abbrev Cts := List (Nat × List Tri)
def CtV (K : PySem.W.Frag) (H : Hp) (v : V) (cts : Cts) : Prop := ∃ (d : Addr) (kvs : List (Key × V)), v = .ref d ∧ H d = some (.dK kvs) ∧ P2 (fun a b => a.1 = .inl (b.1 : Int) ∧ StV K H a.2 b.2) kvs cts
theorem CtV.up {K : PySem.W.Frag} {H H' : Hp} {v : V} {cts : Cts} (e : Ex H H') (h : CtV K H v cts) : CtV K H' v cts := by
  obtain ⟨d, kvs, h1, h2, h3⟩ := h
  exact ⟨d, kvs, h1, e _ _ h2, h3.imp fun _ _ z => ⟨z.1, imm (R := StV K) (.ex e) z.2⟩⟩
/-- good cuts: no deed twice, small -/
structure Gc (cts : Cts) : Prop where
  nd : (cts.map Prod.fst).Nodup
  few : cts.length ≤ 300
  len : ∀ e ∈ cts, e.2.length ≤ 100 ∧ ∀ t ∈ e.2, t.2.2 ≤ 100
  far : ∀ e ∈ cts, ∀ t ∈ e.2, t.2.1 ≤ 1000
def inTri (x : Sg) (t : Tri) : Bool := decide (t.1 = x.1) && (decide (t.2.1 ≤ x.2) && decide (x.2 < t.2.1 + t.2.2))
def among (st : List Tri) (x : Sg) : Bool := st.any (inTri x)
def isCut (cts : Cts) (s : Nat) (x : Sg) : Bool := cts.any fun e => s.testBit e.1 && among e.2 x
def whoOf (W : List Bi) (c : Nat) : Nat := match W[c]? with | some b => b.who | none => 0
theorem who_at {W : List Bi} {c : Nat} {b : Bi} (h : W[c]? = some b) : whoOf W c = b.who := by unfold whoOf; rw [h]
def shown (W : List Bi) (cts : Cts) (s : Nat) (x : Sg) : Bool := decide (0 < x.1) && (s.testBit (whoOf W x.1) && !isCut cts s x)
section
variable {K : PySem.W.Frag} {H : Hp} {Q : VK} {v : V}
theorem r_gTri {σ : L2.St} {t : TGs} {N : L2.St → Hp → Prop} {x : Tri} (h : TrV K H v x) (k : t [.int (x.1 : Nat), .int (x.2.1 : Nat), .int (x.2.2 : Nat)] σ H N) : gTup K 3 t v σ H N := by
  obtain ⟨p, rfl, hp⟩ := h
  exact r_gtup hp.sq rfl k
end
/-- a dict that was locked: what was known is known again -/
theorem ex_unlock {H H' : Hp} {d : Addr} {o : Obj} {u : HO} (hd : H d = some u) (e : Ex (upd H d (.frz o u)) H') : Ex H (upd H' d u) := fun a w ha => by
  by_cases h : a = d
  · subst h
    rw [upd_same, ← ha, hd]
  · rw [upd_ne h]
    exact e _ _ (by rw [upd_ne h]; exact ha)
theorem tk_lock {H : Hp} {d : Addr} {o : Obj} {kvs : List (Key × V)} (hd : H d = some (.dK kvs)) : Tk H (upd H d (.frz o (.dK kvs))) := fun p xs h => by
  have n : p ≠ d := fun z => by rw [z, hd] at h; cases h
  rw [upd_ne n]
  exact h
/-- what an int key finds -/
theorem valV_at {K : PySem.W.Frag} {H : Hp} : ∀ {kvs : List (Key × V)} {cts : Cts}, P2 (fun a b => a.1 = .inl (b.1 : Int) ∧ StV K H a.2 b.2) kvs cts → (cts.map Prod.fst).Nodup → ∀ {i : Nat} {k : Key} {v : V}, kvs[i]? = some (k, v) → valV kvs k = some v := by
  intro kvs cts h nd i k v hi
  induction h generalizing i with
  | nil => simp at hi
  | @cons a b l m r t ih =>
    rw [List.map_cons, List.nodup_cons] at nd
    cases i with
    | zero =>
      have : a = (k, v) := Option.some.inj hi
      subst this
      exact valV_pos rfl
    | succ i =>
      have hi : l[i]? = some (k, v) := hi
      have ne : ¬ a.1 = k := fun e => by
        obtain ⟨b', hb', rb⟩ := t.get hi
        rw [r.1] at e
        have e2 : (Sum.inl (b.1 : Int) : Key) = .inl (b'.1 : Int) := e.trans rb.1
        have : b.1 = b'.1 := by have := Sum.inl.inj e2; omega
        exact nd.1 (List.mem_map.mpr ⟨b', List.mem_of_getElem? hb', this.symm⟩)
      rw [valV_neg ne]
      exact ih nd.2 hi
end Wd

namespace K23
open PySem PySem.Spec PyProof.Rows L2 Dk Tl
/-- one step of a reading -/
local macro_rules | `(tactic| walk_at "rd1") => `(tactic| first
  | ((with_reducible refine r_var (v := ?rv) ?rh ?_); (case rh => rfl))
  | with_reducible refine r_c ?_
  | with_reducible refine r_seq ?_
  | with_reducible refine r_asg ?_
  | with_reducible refine r_par ?_
  | with_reducible refine r_gname ?_
  | with_reducible refine r_op ?_
  | with_reducible refine r_forLo ?_
  | with_reducible refine r_forTo ?_
  | with_reducible refine r_forSo ?_
  | with_reducible refine r_forRo ?_
  | with_reducible refine r_forRvo ?_
  | with_reducible refine r_forZo ?_
  | with_reducible refine r_revS ?_
  | with_reducible refine r_lcRo ?_
  | with_reducible refine r_lcLo ?_
  | with_reducible refine r_yes ?_
  | with_reducible refine r_callK0 ?_
  | with_reducible refine r_break ?_
  | with_reducible refine r_forR2o ?_
  | with_reducible refine r_forEo ?_
  | with_reducible refine r_forESo ?_
  | with_reducible refine r_xfo ?_
  | with_reducible refine r_noP ?_
  | with_reducible refine r_part ?_
  | with_reducible refine r_pI ?_
  | with_reducible refine r_gcons ?_
  | with_reducible refine r_gnil ?_
  | with_reducible refine r_mkO ?_
  | with_reducible refine r_un ?_
  | with_reducible refine r_addI ?_
  | with_reducible refine r_I0 ?_
  | with_reducible refine r_U ?_
  | with_reducible refine r_cons ?_
  | with_reducible refine r_nil ?_
  | with_reducible refine r_CB ?_
  | with_reducible refine r_call ?_
  | with_reducible refine r_callS ?_
  | with_reducible refine r_int ?_
  | with_reducible refine r_max ?_
  | with_reducible refine r_min ?_
  | with_reducible refine r_test ?_
  | with_reducible refine r_B ?_
  | with_reducible refine r_blv ?_
  | with_reducible refine r_and ?_
  | with_reducible refine r_or ?_
  | with_reducible refine r_not ?_
  | with_reducible refine r_andV ?_
  | with_reducible refine r_orV ?_
  | with_reducible refine r_notV ?_
  | with_reducible refine r_ifE ?_
  | with_reducible refine r_ifS ?_
  | with_reducible refine r_ret ?_
  | with_reducible refine r_retN ?_
  | with_reducible refine r_drop ?_
  | with_reducible refine r_next ?_
  | with_reducible refine r_sl ?_
  | with_reducible refine r_gsub ?_
  | with_reducible refine r_bm ?_
  | with_reducible refine r_tup ?_
  | with_reducible refine r_lst ?_
  | with_reducible refine r_isN ?_
  | with_reducible refine r_notN ?_
  | with_reducible refine r_chain ?_
  | with_reducible refine r_lcEio ?_
  | with_reducible refine r_forEi ?_
  | with_reducible refine r_lcTo ?_
  | with_reducible refine r_m1 ?_
  | with_reducible refine r_dget ?_
  | with_reducible refine r_din ?_
  | with_reducible refine r_dnotin ?_
  | with_reducible refine r_starC ?_
  | with_reducible refine r_callKS ?_
  | with_reducible refine r_itt ?_
  | with_reducible refine r_iff ?_
  | with_reducible refine r_ittN ?_
  | with_reducible refine r_iffN ?_
  | ((with_reducible refine r_ittD ?rh ?_); (case rh => rfl))
  | ((with_reducible refine r_iffD ?rh ?_); (case rh => rfl))
  | ((with_reducible refine r_modP ?rh ?_); (case rh => decide))
  | ((with_reducible refine r_eq ?rh ?_); (case rh => rfl))
  | ((with_reducible refine r_eqP ?rh ?_); (case rh => rfl))
  | ((with_reducible refine r_ne ?rh ?_); (case rh => rfl)))
local macro_rules | `(tactic| walk_at "rd") => `(tactic| repeat walk_at "rd1")
local macro_rules | `(tactic| walk_at "isi") => `(tactic| first | refine r_isi (b := true) (by assumption) (by decide +kernel) ?_ | refine r_isi (b := false) (by assumption) (by decide +kernel) ?_)
local macro_rules | `(tactic| walk_at "rs1") => `(tactic| first
  | with_reducible refine r_seq ?_
  | with_reducible refine r_asg ?_
  | with_reducible refine r_gname ?_
  | with_reducible refine r_ret ?_)
local macro_rules | `(tactic| walk_at "rs") => `(tactic| repeat walk_at "rs1")

open Wd
section
variable {P : Program} {w : World} {K : PySem.W.Frag} {mg : Str → Option Value} {base : Heap}
def spHas : Sp := fun vs H Q _ => ∃ s d : Nat, vs = [.int (s : Nat), .int (d : Nat)] ∧ Q (.bl (s.testBit d)) H
theorem ok_has_deed (T : Txt K mg) : FnOk P w K mg base CX0 1 T.a_has_deed T.d_has_deed ["stand", "deed"] spHas := by
  refine T.F_has_deed.ok sc_has_deed (fun vs H Q E h => ?_) (fun cdv A outer s H vs Q E hr h => ?_)
  · obtain ⟨s, d, rfl, _⟩ := h
    rfl
  · obtain ⟨s, d, rfl, q⟩ := h
    refine ⟨_, (pss_one (ps_ret (pe_cmpR (op_eqU hr.units) (pe_op op_and (pe_op op_shr (pv 0) (pv 1)) pe_int) pe_int (nomark _)))), ?_⟩
    walk_at "rd"
    refine r_I (by omega) ?_
    walk_at "rd"
    rw [bit_val]
    exact q
end
end K23

namespace K23
open PySem PySem.Spec PyProof.Rows L2 Dk Tl
/-- one step of a reading -/
local macro_rules | `(tactic| walk_at "rd1") => `(tactic| first
  | ((with_reducible refine r_var (v := ?rv) ?rh ?_); (case rh => rfl))
  | with_reducible refine r_c ?_
  | with_reducible refine r_seq ?_
  | with_reducible refine r_asg ?_
  | with_reducible refine r_par ?_
  | with_reducible refine r_gname ?_
  | with_reducible refine r_op ?_
  | with_reducible refine r_forLo ?_
  | with_reducible refine r_forTo ?_
  | with_reducible refine r_forSo ?_
  | with_reducible refine r_forRo ?_
  | with_reducible refine r_forRvo ?_
  | with_reducible refine r_forZo ?_
  | with_reducible refine r_revS ?_
  | with_reducible refine r_lcRo ?_
  | with_reducible refine r_lcLo ?_
  | with_reducible refine r_yes ?_
  | with_reducible refine r_callK0 ?_
  | with_reducible refine r_break ?_
  | with_reducible refine r_forR2o ?_
  | with_reducible refine r_forEo ?_
  | with_reducible refine r_forESo ?_
  | with_reducible refine r_xfo ?_
  | with_reducible refine r_noP ?_
  | with_reducible refine r_part ?_
  | with_reducible refine r_pI ?_
  | with_reducible refine r_gcons ?_
  | with_reducible refine r_gnil ?_
  | with_reducible refine r_mkO ?_
  | with_reducible refine r_un ?_
  | with_reducible refine r_addI ?_
  | with_reducible refine r_I0 ?_
  | with_reducible refine r_U ?_
  | with_reducible refine r_cons ?_
  | with_reducible refine r_nil ?_
  | with_reducible refine r_CB ?_
  | with_reducible refine r_call ?_
  | with_reducible refine r_callS ?_
  | with_reducible refine r_int ?_
  | with_reducible refine r_max ?_
  | with_reducible refine r_min ?_
  | with_reducible refine r_test ?_
  | with_reducible refine r_B ?_
  | with_reducible refine r_blv ?_
  | with_reducible refine r_and ?_
  | with_reducible refine r_or ?_
  | with_reducible refine r_not ?_
  | with_reducible refine r_andV ?_
  | with_reducible refine r_orV ?_
  | with_reducible refine r_notV ?_
  | with_reducible refine r_ifE ?_
  | with_reducible refine r_ifS ?_
  | with_reducible refine r_ret ?_
  | with_reducible refine r_retN ?_
  | with_reducible refine r_drop ?_
  | with_reducible refine r_next ?_
  | with_reducible refine r_sl ?_
  | with_reducible refine r_gsub ?_
  | with_reducible refine r_bm ?_
  | with_reducible refine r_tup ?_
  | with_reducible refine r_lst ?_
  | with_reducible refine r_isN ?_
  | with_reducible refine r_notN ?_
  | with_reducible refine r_chain ?_
  | with_reducible refine r_lcEio ?_
  | with_reducible refine r_forEi ?_
  | with_reducible refine r_lcTo ?_
  | with_reducible refine r_m1 ?_
  | with_reducible refine r_dget ?_
  | with_reducible refine r_din ?_
  | with_reducible refine r_dnotin ?_
  | with_reducible refine r_starC ?_
  | with_reducible refine r_callKS ?_
  | with_reducible refine r_itt ?_
  | with_reducible refine r_iff ?_
  | with_reducible refine r_ittN ?_
  | with_reducible refine r_iffN ?_
  | ((with_reducible refine r_ittD ?rh ?_); (case rh => rfl))
  | ((with_reducible refine r_iffD ?rh ?_); (case rh => rfl))
  | ((with_reducible refine r_modP ?rh ?_); (case rh => decide))
  | ((with_reducible refine r_eq ?rh ?_); (case rh => rfl))
  | ((with_reducible refine r_eqP ?rh ?_); (case rh => rfl))
  | ((with_reducible refine r_ne ?rh ?_); (case rh => rfl)))
local macro_rules | `(tactic| walk_at "rd") => `(tactic| repeat walk_at "rd1")
local macro_rules | `(tactic| walk_at "isi") => `(tactic| first | refine r_isi (b := true) (by assumption) (by decide +kernel) ?_ | refine r_isi (b := false) (by assumption) (by decide +kernel) ?_)
local macro_rules | `(tactic| walk_at "rs1") => `(tactic| first
  | with_reducible refine r_seq ?_
  | with_reducible refine r_asg ?_
  | with_reducible refine r_gname ?_
  | with_reducible refine r_ret ?_)
local macro_rules | `(tactic| walk_at "rs") => `(tactic| repeat walk_at "rs1")

open Wd
section
variable {P : Program} {w : World} {K : PySem.W.Frag} {mg : Str → Option Value} {base : Heap}
def letterOf (W : List Bi) (x : Sg) : Nat := match W[x.1]? with | some b => ((cs b.t)[x.2]?).getD 0 | none => 0
def lettersOf (W : List Bi) (row : List Sg) : Str := Txt.join "" (row.map fun x => (⟨#[letterOf W x]⟩ : Str))
def spLetters (K : PySem.W.Frag) : Sp := fun vs H Q _ => ∃ (b v : V) (W : List Bi) (row : List Sg), vs = [b, v] ∧ WdV K H b W ∧ Gw W ∧ TupV K (SgV K) H v row ∧ (∀ x ∈ row, OkW W x ∧ 0 < x.1) ∧ row.length ≤ 900 ∧
  ∀ H', Ex H H' → Q (.str (lettersOf W row)) H'
theorem ok_letters_of (T : Txt K mg) : FnOk P w K mg base CX0 2 T.a_letters_of T.d_letters_of ["births", "signs"] (spLetters K) := by
  refine T.F_letters_of.ok sc_letters_of (fun vs H Q E h => ?_) (fun cdv A outer s H vs Q E hr h => ?_)
  · obtain ⟨b, v, W, row, rfl, _⟩ := h
    rfl
  · obtain ⟨b, v, W, row, rfl, wd, gw, ⟨p, xs, rfl, hp, hx⟩, hok, hlen, q⟩ := h
    refine ⟨_, (pss_one (ps_ret (pe_join pe_str (pe_lc (own := [("sign", 2)]) (g := gName 2) rfl sc_letters_of.nd (pi_tup (pv 1)) (blkOk_by (N := N_letters_of) (sc := defScope s_letters_of) (by decide +kernel)) (fun _ _ _ _ _ => pg_name (i := 2) sc_letters_of.nd rfl (Or.inl rfl)) (fun _ _ _ _ _ => pts_nil) (fun _ _ _ _ _ => (pe_call (ok_letter_of T) hr (by rfl) T.g_letter_of T.F_letter_of.kp T.b_letter_of .nil pass0 (pa_cons (pv 0) (pa_cons (pv 2) pa_nil)))))))), ?_⟩
    have xl := hx.len
    walk_at "rd"
    refine ⟨⟨_, rfl⟩, ?_⟩
    walk_at "rd"
    refine l_lcT hp.sq (fun D i H' => Ex H H' ∧ H' D = some (.lst (((row.take i).map fun x => (⟨#[letterOf W x]⟩ : Str)).map V.str))) (fun D hD => ⟨Same.new (Same.refl H) hD, upd_same⟩) (fun D i H' hW => (hp.up hW.1).sq) (fun D i x H' hD hi hW => ?_) (fun D H' hD hW => ?_)
    · obtain ⟨e, ha⟩ := hW
      obtain ⟨z, hz, sv⟩ := hx.get hi
      have il := (List.getElem?_eq_some_iff.mp hi).1
      obtain ⟨okz, z0⟩ := hok z (List.mem_of_getElem? hz)
      obtain ⟨bi, hb⟩ := okz.at
      have tl := gw.tl bi (List.mem_of_getElem? hb)
      have ok2 := okz.2
      rw [sz_at z0 hb] at ok2
      obtain ⟨c, hc⟩ : ∃ c, (cs bi.t)[z.2]? = some c := ⟨_, List.getElem?_eq_getElem (by rw [cs_len]; exact ok2)⟩
      walk_at "rd"
      refine ⟨rfl, ?_⟩
      walk_at "rd"
      refine ⟨b, _, W, z, bi, c, rfl, imm (R := WdV K) (.ex e) wd, imm (.ex e) sv, hb, by omega, hc, ?_⟩
      refine ⟨_, ha, by rw [List.length_map, List.length_map, List.length_take]; exact Nat.lt_of_le_of_lt (show min i row.length ≤ 1000 by omega) (by decide), Same.mut e hD, ?_⟩
      rw [upd_same, List.take_add_one, hz]
      have el : letterOf W z = c := by unfold letterOf; rw [hb]; show ((cs bi.t)[z.2]?).getD 0 = c; rw [hc]; rfl
      simp [el]
    · obtain ⟨e, ha⟩ := hW
      rw [xl, List.take_length] at ha
      have one : ∀ y ∈ (row.map fun x => (⟨#[letterOf W x]⟩ : Str)), y.length = 1 := fun y hy => by
        obtain ⟨x, _, rfl⟩ := List.mem_map.mp hy
        rfl
      walk_at "rd"
      refine ⟨"", D, _, rfl, rfl, .inl (sqL ha), ?_, ?_⟩
      · rw [sum_len one, List.length_map, show ("" : Str).length = 0 from rfl]
        omega
      · exact q H' e
def fuPair (W : List Bi) (x y : Sg) : Prop := ¬ E (lf W) (rf W) x y ∧ ¬ E (lf W) (rf W) y x
/-- the first two neighbours that are untold -/
def Fu (W : List Bi) (row : List Sg) (o : Option (Sg × Sg)) : Prop := match o with
  | none => ∀ i x y, row[i]? = some x → row[i + 1]? = some y → ¬ fuPair W x y
  | some (a, c) => ∃ i, row[i]? = some a ∧ row[i + 1]? = some c ∧ fuPair W a c ∧ ∀ j x y, j < i → row[j]? = some x → row[j + 1]? = some y → ¬ fuPair W x y
def OpV (K : PySem.W.Frag) (H : Hp) (v : V) (o : Option (Sg × Sg)) : Prop := match o with
  | none => v = .non
  | some z => SpV K H v z
def spFu (K : PySem.W.Frag) : Sp := fun vs H Q _ => ∃ (b v : V) (W : List Bi) (row : List Sg), vs = [b, v] ∧ WdV K H b W ∧ Gw W ∧ TupV K (SgV K) H v row ∧ (∀ x ∈ row, OkW W x) ∧
  ∀ u o H', Ex H H' → OpV K H' u o → Fu W row o → Q u H'
theorem ok_first_untold (T : Txt K mg) : FnOk P w K mg base CX0 4 T.a_first_untold T.d_first_untold ["births", "row"] (spFu K) := by
  refine T.F_first_untold.ok sc_first_untold (fun vs H Q E h => ?_) (fun cdv A outer s H vs Q E hr h => ?_)
  · obtain ⟨b, v, W, row, rfl, _⟩ := h
    rfl
  · obtain ⟨b, v, W, row, rfl, wd, gw, hv, hok, q⟩ := h
    refine ⟨_, (pss_cons (ps_for PassesOwn.never rfl (Zp.pi_zipK (by rfl) T.n_zip (pa_cons (pv 1) (pa_cons (pe_slice sl_U (pv 1) (po_some pe_int) po_none) pa_nil))) (pg_tup rfl (pgs_cons (pg_name (i := 2) sc_first_untold.nd rfl (Or.inl rfl)) (pgs_cons (pg_name (i := 3) sc_first_untold.nd rfl (Or.inl rfl)) pgs_nil))) (pss_one (ps_if (PW.pt (pw_and (pt_not (pt_val (pe_call (ok_at_or_ahead T) hr (by rfl) T.g_at_or_ahead T.F_at_or_ahead.kp T.b_at_or_ahead .nil pass0 (pa_cons (pv 0) (pa_cons (pv 2) (pa_cons (pv 3) pa_nil)))))) (pw_and1 (pt_not (pt_val (pe_call (ok_at_or_ahead T) hr (by rfl) T.g_at_or_ahead T.F_at_or_ahead.kp T.b_at_or_ahead .nil pass0 (pa_cons (pv 0) (pa_cons (pv 3) (pa_cons (pv 2) pa_nil))))))))) (pss_one (ps_ret (pe_tup (pa_cons (pv 2) (pa_cons (pv 3) pa_nil))))) pss_nil)))
        (pss_one (ps_ret pe_non))), ?_⟩
    walk_at "rd"
    refine r_slFrom (k := 1) hv fun v2 H1 e1 hv2 => ?_
    obtain ⟨p, xs, rfl, hp, hx⟩ := imm (R := TupV K (SgV K)) (.ex e1) hv
    obtain ⟨p2, ys, rfl, hp2, hy⟩ := hv2
    have xl := hx.len
    have yl := hy.len
    rw [List.length_drop] at yl
    walk_at "rd"
    refine l_ZK (.t p) (.t p2) (xs := xs) (ys := ys) hp.sq hp2.sq (fun i σ H' => Ex H1 H' ∧ (∃ y2 y3, σ = [some b, some (.ref p), y2, y3]) ∧ ∀ j x y, j < i → row[j]? = some x → row[j + 1]? = some y → ¬ fuPair W x y) ⟨Same.refl H1, ⟨none, none, rfl⟩, fun j x y h => absurd h (Nat.not_lt_zero j)⟩ (fun i σ H' hW => ⟨(hp.up hW.1).sq, (hp2.up hW.1).sq⟩) (fun i vx vy σ H' t hi hj hW ht => ?_) (fun σ H' hW => ?_)
    · obtain ⟨e, ⟨y2, y3, rfl⟩, hno⟩ := hW
      obtain ⟨x, hx1, sx⟩ := hx.get hi
      obtain ⟨y, hy1, sy⟩ := hy.get hj
      rw [List.getElem?_drop, Nat.add_comm 1 i] at hy1
      have okx := hok x (List.mem_of_getElem? hx1)
      have oky := hok y (List.mem_of_getElem? hy1)
      obtain ⟨H2, k2, e2, h2⟩ := nP K (R := SgV K) (S := SgV K) (x := x) (y := y) ht (imm (.ex e) sx) (imm (.ex e) sy)
      rw [← k2]
      refine r_gP h2 fun ux uy sx2 sy2 => ?_
      have e02 := (e1.trans e).trans e2
      walk_at "rd"
      refine ⟨b, ux, uy, W, x, y, rfl, imm (R := WdV K) (.ex e02) wd, gw, sx2, sy2, okx, oky, fun c1 H3 e3 hc1 => ?_⟩
      have next : ¬ fuPair W x y → ∀ j a c, j < i + 1 → row[j]? = some a → row[j + 1]? = some c → ¬ fuPair W a c := fun h j a c hj ha hc => by
        by_cases q : j < i
        · exact hno j a c q ha hc
        · have : j = i := by omega
          subst this
          rw [hx1] at ha
          rw [hy1] at hc
          rw [← Option.some.inj ha, ← Option.some.inj hc]
          exact h
      cases c1 with
      | true =>
        walk_at "rd"
        exact ⟨(e.trans e2).trans e3, ⟨_, _, rfl⟩, next fun g => g.1 (hc1.mp rfl)⟩
      | false =>
        walk_at "rd"
        refine ⟨b, uy, ux, W, y, x, rfl, imm (R := WdV K) (.ex (e02.trans e3)) wd, gw, imm (.ex e3) sy2, imm (.ex e3) sx2, oky, okx, fun c2 H4 e4 hc2 => ?_⟩
        cases c2 with
        | true =>
          walk_at "rd"
          exact ⟨((e.trans e2).trans e3).trans e4, ⟨_, _, rfl⟩, next fun g => g.2 (hc2.mp rfl)⟩
        | false =>
          walk_at "rd"
          refine r_small nsz fun p5 n5 => ?_
          obtain ⟨H5, k5, e5, h5⟩ := nP K (R := SgV K) (S := SgV K) (x := x) (y := y) n5 (imm (.ex (e3.trans e4)) sx2) (imm (.ex (e3.trans e4)) sy2)
          rw [← k5]
          exact q _ (some (x, y)) H5 (((e02.trans e3).trans e4).trans e5) h5 ⟨i, hx1, hy1, ⟨fun g => absurd (hc1.mpr g) (by decide), fun g => absurd (hc2.mpr g) (by decide)⟩, hno⟩
    · obtain ⟨e, ⟨y2, y3, rfl⟩, hno⟩ := hW
      walk_at "rd"
      refine q .non none H' (e1.trans e) rfl fun i x y hi hj => hno i x y ?_ hi hj
      have := (List.getElem?_eq_some_iff.mp hj).1
      omega
end
end K23

namespace K23
open PySem PySem.Spec PyProof.Rows L2 Dk Tl
/-- one step of a reading -/
local macro_rules | `(tactic| walk_at "rd1") => `(tactic| first
  | ((with_reducible refine r_var (v := ?rv) ?rh ?_); (case rh => rfl))
  | with_reducible refine r_c ?_
  | with_reducible refine r_seq ?_
  | with_reducible refine r_asg ?_
  | with_reducible refine r_par ?_
  | with_reducible refine r_gname ?_
  | with_reducible refine r_op ?_
  | with_reducible refine r_forLo ?_
  | with_reducible refine r_forTo ?_
  | with_reducible refine r_forSo ?_
  | with_reducible refine r_forRo ?_
  | with_reducible refine r_forRvo ?_
  | with_reducible refine r_forZo ?_
  | with_reducible refine r_revS ?_
  | with_reducible refine r_lcRo ?_
  | with_reducible refine r_lcLo ?_
  | with_reducible refine r_yes ?_
  | with_reducible refine r_callK0 ?_
  | with_reducible refine r_break ?_
  | with_reducible refine r_forR2o ?_
  | with_reducible refine r_forEo ?_
  | with_reducible refine r_forESo ?_
  | with_reducible refine r_xfo ?_
  | with_reducible refine r_noP ?_
  | with_reducible refine r_part ?_
  | with_reducible refine r_pI ?_
  | with_reducible refine r_gcons ?_
  | with_reducible refine r_gnil ?_
  | with_reducible refine r_mkO ?_
  | with_reducible refine r_un ?_
  | with_reducible refine r_addI ?_
  | with_reducible refine r_I0 ?_
  | with_reducible refine r_U ?_
  | with_reducible refine r_cons ?_
  | with_reducible refine r_nil ?_
  | with_reducible refine r_CB ?_
  | with_reducible refine r_call ?_
  | with_reducible refine r_callS ?_
  | with_reducible refine r_int ?_
  | with_reducible refine r_max ?_
  | with_reducible refine r_min ?_
  | with_reducible refine r_test ?_
  | with_reducible refine r_B ?_
  | with_reducible refine r_blv ?_
  | with_reducible refine r_and ?_
  | with_reducible refine r_or ?_
  | with_reducible refine r_not ?_
  | with_reducible refine r_andV ?_
  | with_reducible refine r_orV ?_
  | with_reducible refine r_notV ?_
  | with_reducible refine r_ifE ?_
  | with_reducible refine r_ifS ?_
  | with_reducible refine r_ret ?_
  | with_reducible refine r_retN ?_
  | with_reducible refine r_drop ?_
  | with_reducible refine r_next ?_
  | with_reducible refine r_sl ?_
  | with_reducible refine r_gsub ?_
  | with_reducible refine r_bm ?_
  | with_reducible refine r_tup ?_
  | with_reducible refine r_lst ?_
  | with_reducible refine r_isN ?_
  | with_reducible refine r_notN ?_
  | with_reducible refine r_chain ?_
  | with_reducible refine r_lcEio ?_
  | with_reducible refine r_forEi ?_
  | with_reducible refine r_lcTo ?_
  | with_reducible refine r_m1 ?_
  | with_reducible refine r_dget ?_
  | with_reducible refine r_din ?_
  | with_reducible refine r_dnotin ?_
  | with_reducible refine r_starC ?_
  | with_reducible refine r_callKS ?_
  | with_reducible refine r_itt ?_
  | with_reducible refine r_iff ?_
  | with_reducible refine r_ittN ?_
  | with_reducible refine r_iffN ?_
  | ((with_reducible refine r_ittD ?rh ?_); (case rh => rfl))
  | ((with_reducible refine r_iffD ?rh ?_); (case rh => rfl))
  | ((with_reducible refine r_modP ?rh ?_); (case rh => decide))
  | ((with_reducible refine r_eq ?rh ?_); (case rh => rfl))
  | ((with_reducible refine r_eqP ?rh ?_); (case rh => rfl))
  | ((with_reducible refine r_ne ?rh ?_); (case rh => rfl)))
local macro_rules | `(tactic| walk_at "rd") => `(tactic| repeat walk_at "rd1")
local macro_rules | `(tactic| walk_at "isi") => `(tactic| first | refine r_isi (b := true) (by assumption) (by decide +kernel) ?_ | refine r_isi (b := false) (by assumption) (by decide +kernel) ?_)
local macro_rules | `(tactic| walk_at "rs1") => `(tactic| first
  | with_reducible refine r_seq ?_
  | with_reducible refine r_asg ?_
  | with_reducible refine r_gname ?_
  | with_reducible refine r_ret ?_)
local macro_rules | `(tactic| walk_at "rs") => `(tactic| repeat walk_at "rs1")

open Wd
abbrev sgK (x : Sg) : List Key := [.inl ((x.1 : Nat) : Int), .inl ((x.2 : Nat) : Int)]
theorem sgK_inj {x y : Sg} : sgK x = sgK y ↔ x = y := by
  constructor
  · intro h
    have h1 := (List.cons.inj h).1
    have h2 := (List.cons.inj (List.cons.inj h).2).1
    have := Sum.inl.inj h1
    have := Sum.inl.inj h2
    exact Prod.ext (by omega) (by omega)
  · intro h; rw [h]
/-- a dict of signs -/
def AwV (H : Hp) (p : Addr) (S : Sg → Bool) (m : Nat) : Prop := ∃ kvs : List (List Key × V), H p = some (.dT kvs) ∧ (∀ x : Sg, (valV kvs (sgK x)).isSome = S x) ∧ kvs.length ≤ m
section
variable {P : Program} {w : World} {K : PySem.W.Frag} {mg : Str → Option Value} {base : Heap}
def spAway (K : PySem.W.Frag) : Sp := fun vs H Q _ => ∃ (v : V) (cts : Cts) (s : Nat), vs = [v, .int (s : Nat)] ∧ CtV K H v cts ∧ Gc cts ∧
  ∀ p H', Ex H H' → AwV H' p (isCut cts s) 4000000 → Q (.ref p) H'
set_option maxHeartbeats 16000000 in
theorem ok_cut_away (T : Txt K mg) : FnOk P w K mg base CX0 2 T.a_cut_away T.d_cut_away ["cuts", "stand"] (spAway K) := by
  refine T.F_cut_away.ok sc_cut_away (fun vs H Q E h => ?_) (fun cdv A outer s H vs Q E hr h => ?_)
  · obtain ⟨v, cts, s, rfl, _⟩ := h
    rfl
  · obtain ⟨v, cts, s0, rfl, ⟨d, kvs, rfl, hd, hP⟩, gc, q⟩ := h
    refine ⟨_, (pss_cons (ps_set (i := 2) sc_cut_away.nd rfl (Or.inl rfl) pe_dnewT)
        (pss_cons (ps_lock (ps_for PassesOwn.never rfl (pi_keys (pv 0)) (pg_name (i := 3) sc_cut_away.nd rfl (Or.inl rfl)) (pss_one (ps_if (pt_val (pe_call (ok_has_deed T) hr (by rfl) T.g_has_deed T.F_has_deed.kp T.b_has_deed .nil pass0 (pa_cons (pv 1) (pa_cons (pv 3) pa_nil)))) (pss_one (ps_for PassesOwn.never rfl (pi_tup (pe_dget (Nat.lt_of_le_of_lt (Nat.add_le_add_left (by decide : 1 ≤ 65) _) hr.units65) (pv 0) (pv 3) (fun _ _ => rfl))) (pg_tup rfl (pgs_cons (pg_name (i := 4) sc_cut_away.nd rfl (Or.inl rfl)) (pgs_cons (pg_name (i := 5) sc_cut_away.nd rfl (Or.inl rfl)) (pgs_cons (pg_name (i := 6) sc_cut_away.nd rfl (Or.inl rfl)) pgs_nil)))) (pss_one (ps_for PassesOwn.never rfl (pi_range2 (by rfl) T.n_range (pa_cons (pv 5) (pa_cons (pe_op op_addU (pv 5) (pv 6)) pa_nil))) (pg_name (i := 7) sc_cut_away.nd rfl (Or.inl rfl)) (pss_one (ps_asg pe_bl (pg_sub (pv 2) (pe_tup (pa_cons (pv 4) (pa_cons (pv 7) pa_nil))) (set_dict (Nat.lt_of_le_of_lt (Nat.add_le_add_left (by decide : 1 ≤ 65) _) hr.units65))))))))) pss_nil))))
        (pss_one (ps_ret (pv 2))))), ?_⟩
    have few := gc.few
    refine r_seq ?_
    refine r_asg ?_
    intro p np
    obtain ⟨H1, k1, e1, h1⟩ := nL (.dT []) np
    rw [← k1]
    have hd1 := e1 _ _ hd
    have pd : p ≠ d := fun z => by rw [z, hd] at np; cases np
    have aw0 : AwV H1 p (fun _ => false) 0 := ⟨[], h1, fun x => rfl, Nat.le_refl _⟩
    walk_at "rd"
    refine r_lock ⟨d, .dK kvs, hd1, trivial, fun od => ?_⟩
    have tl := (Tk.ex e1).trans (tk_lock (o := od) hd1)
    have hdl : (upd H1 d (.frz od (.dK kvs))) d = some (.frz od (.dK kvs)) := upd_same
    have awl : AwV (upd H1 d (.frz od (.dK kvs))) p (fun _ => false) 0 := aw0.imp fun _ z => ⟨by rw [upd_ne pd]; exact z.1, z.2⟩
    obtain ⟨HL, hHL⟩ : ∃ HL, HL = upd H1 d (.frz od (.dK kvs)) := ⟨_, rfl⟩
    rw [← hHL] at tl hdl awl ⊢
    have back : ∀ {H' : Hp}, (∀ a o, a ≠ p → HL a = some o → H' a = some o) → Ex H (upd H' d (.dK kvs)) := fun {H'} e a o ha => by
      by_cases ad : a = d
      · rw [ad, upd_same, ← hd, ← ad, ha]
      · have ap : a ≠ p := fun z => by rw [z, np] at ha; cases ha
        rw [upd_ne ad]
        refine e a o ap ?_
        rw [hHL, upd_ne ad]
        exact e1 _ _ ha
    refine r_forKo ?_
    walk_at "rd"
    refine l_K hdl (fun i σ H' => (∀ a o, a ≠ p → HL a = some o → H' a = some o) ∧ AwV H' p (fun x => (cts.take i).any fun e => s0.testBit e.1 && among e.2 x) (i * 10000) ∧ ∃ y3 y4 y5 y6 y7, σ = [some (.ref d), some (.int (s0 : Nat)), some (.ref p), y3, y4, y5, y6, y7]) ⟨fun _ _ _ h => h, by rw [Nat.zero_mul]; exact awl, none, none, none, none, none, rfl⟩ (fun i σ H' hW => hW.1 _ _ pd.symm hdl) (fun i k vv σ H' hi hW => ?_) (fun σ H' hW => ?_)
    · obtain ⟨ext, aw, y3, y4, y5, y6, y7, rfl⟩ := hW
      obtain ⟨e, he, hk, hv⟩ := hP.get hi
      obtain rfl : k = .inl (e.1 : Int) := hk
      have il := (List.getElem?_eq_some_iff.mp he).1
      have hv : StV K H vv e.2 := hv
      have val : valV kvs (.inl (e.1 : Int)) = some vv := valV_at hP gc.nd hi
      obtain ⟨gl1, gl2⟩ := gc.len e (List.mem_of_getElem? he)
      have step : ∀ x, ((cts.take (i + 1)).any fun e => s0.testBit e.1 && among e.2 x) = (((cts.take i).any fun e => s0.testBit e.1 && among e.2 x) || (s0.testBit e.1 && among e.2 x)) := fun x => by
        rw [List.take_add_one, he, List.any_append]
        simp
      rw [show kV (Sum.inl ((e.1 : Nat) : Int)) = V.int (e.1 : Nat) from rfl]
      walk_at "rd"
      refine ⟨s0, e.1, rfl, ?_⟩
      walk_at "rd"
      cases hb1 : s0.testBit e.1 with
      | false =>
        walk_at "rd"
        refine ⟨ext, ?_, _, _, _, _, _, rfl⟩
        obtain ⟨kv, a1, a2, a3⟩ := aw
        exact ⟨kv, a1, fun x => by rw [a2 x]; dsimp only; rw [step, hb1]; simp, by omega⟩
      | true =>
        walk_at "rd"
        refine ⟨d, vv, rfl, .inl ⟨kvs, .inl (e.1 : Int), .inr ⟨od, ext _ _ pd.symm hdl⟩, rfl, val.symm⟩, ?_⟩
        -- what stays below
        have tkL : ∀ {H2 : Hp}, (∀ a o, a ≠ p → HL a = some o → H2 a = some o) → Tk HL H2 := fun {H2} ex a xs h => by
          refine ex a _ (fun z => ?_) h
          obtain ⟨kv, a1, _⟩ := awl
          rw [z, a1] at h
          cases h
        obtain ⟨pt, ts, rfl, hpt, hts⟩ := imm (R := StV K) tl hv
        have tsl := hts.len
        refine l_T (hpt.tk (tkL ext)).sq (fun j σ H2 => (∀ a o, a ≠ p → HL a = some o → H2 a = some o) ∧ AwV H2 p (fun x => ((cts.take i).any fun e => s0.testBit e.1 && among e.2 x) || (e.2.take j).any (inTri x)) (i * 10000 + j * 100) ∧ ∃ y4 y5 y6 y7, σ = [some (.ref d), some (.int (s0 : Nat)), some (.ref p), some (.int (e.1 : Nat)), y4, y5, y6, y7]) ⟨ext, ?_, _, _, _, _, rfl⟩ (fun j σ H2 hW => (hpt.tk (tkL hW.1)).sq) (fun j z σ H2 hj hW => ?_) (fun σ H2 hW => ?_)
        · obtain ⟨kv, a1, a2, a3⟩ := aw
          exact ⟨kv, a1, fun x => by rw [a2 x]; dsimp only; simp, by omega⟩
        · obtain ⟨ext2, aw2, y4, y5, y6, y7, rfl⟩ := hW
          obtain ⟨t, ht, hz⟩ := hts.get hj
          have jl := (List.getElem?_eq_some_iff.mp ht).1
          have t100 := gl2 t (List.mem_of_getElem? ht)
          refine r_gTri (imm (R := TrV K) (tkL ext2) hz) ?_
          walk_at "rd"
          refine l_R2 (a := t.2.1) (n := t.2.2) (by omega) (by have := gc.far e (List.mem_of_getElem? he) t (List.mem_of_getElem? ht); omega) (fun m σ H3 => (∀ a o, a ≠ p → HL a = some o → H3 a = some o) ∧ AwV H3 p (fun x => (((cts.take i).any fun e => s0.testBit e.1 && among e.2 x) || (e.2.take j).any (inTri x)) || (decide (t.1 = x.1) && (decide (t.2.1 ≤ x.2) && decide (x.2 < t.2.1 + m)))) (i * 10000 + j * 100 + m) ∧ ∃ y7, σ = [some (.ref d), some (.int (s0 : Nat)), some (.ref p), some (.int (e.1 : Nat)), some (.int (t.1 : Nat)), some (.int (t.2.1 : Nat)), some (.int (t.2.2 : Nat)), y7]) ⟨ext2, ?_, _, rfl⟩ (fun m σ H3 hm hW => ?_) (fun σ H3 hW => ?_)
          · obtain ⟨kv, a1, a2, a3⟩ := aw2
            refine ⟨kv, a1, fun x => ?_, by omega⟩
            rw [a2 x]
            dsimp only
            have tz : (decide (t.2.1 ≤ x.2) && decide (x.2 < t.2.1 + 0)) = false := by
              by_cases c : t.2.1 ≤ x.2
              · rw [decide_eq_false (show ¬ x.2 < t.2.1 + 0 by omega), Bool.and_false]
              · rw [decide_eq_false c, Bool.false_and]
            rw [tz, Bool.and_false, Bool.or_false]
          · obtain ⟨ext3, ⟨kv, a1, a2, a3⟩, y7, rfl⟩ := hW
            walk_at "rd"
            refine r_small nsz fun pk nk => ?_
            obtain ⟨H4, k4, e4, s4⟩ := nS K (i := t.1) (j := t.2.1 + m) nk rfl rfl
            rw [← k4]
            have hk4 : H4 pk = some (.tup ((sgK (t.1, t.2.1 + m)).map kV)) := by rw [k4]; exact upd_same
            have a14 := e4 _ _ a1
            have i3 : i ≤ 300 := by omega
            refine ⟨p, _, rfl, DPut.t a14 hk4 (by rw [sizeLine_eq]; omega), ?_⟩
            refine ⟨fun a o ap ha => by rw [upd_ne ap]; exact e4 _ _ (ext3 a o ap ha), ⟨_, upd_same, fun x => ?_, ?_⟩, _, rfl⟩
            · rw [valV_put]
              by_cases c : x = (t.1, t.2.1 + m)
              · rw [if_pos (sgK_inj.mpr c), c]
                simp
              · rw [if_neg (fun g => c (sgK_inj.mp g)), a2 x]
                dsimp only
                congr 1
                by_cases c1 : t.1 = x.1
                · have c2 : x.2 ≠ t.2.1 + m := fun g => c (Prod.ext c1.symm g)
                  congr 1
                  congr 1
                  rw [Bool.eq_iff_iff, decide_eq_true_iff, decide_eq_true_iff]
                  omega
                · rw [decide_eq_false c1, Bool.false_and, Bool.false_and]
            · have := length_putK kv (sgK (t.1, t.2.1 + m)) (.bl true)
              omega
          · obtain ⟨ext3, ⟨kv, a1, a2, a3⟩, y7, rfl⟩ := hW
            refine ⟨ext3, ⟨kv, a1, fun x => ?_, by omega⟩, _, _, _, _, rfl⟩
            rw [a2 x]
            dsimp only
            rw [List.take_add_one, ht, List.any_append]
            simp [inTri, Bool.or_assoc]
        · obtain ⟨ext2, ⟨kv, a1, a2, a3⟩, y4, y5, y6, y7, rfl⟩ := hW
          refine ⟨ext2, ⟨kv, a1, fun x => ?_, by omega⟩, _, _, _, _, _, rfl⟩
          rw [a2 x]
          dsimp only
          rw [step, hb1, tsl, List.take_length]
          simp [among]
    · obtain ⟨ext, ⟨kv, a1, a2, a3⟩, y3, y4, y5, y6, y7, rfl⟩ := hW
      rw [hP.len, List.take_length] at a2
      have cl := hP.len
      refine ⟨ext _ _ pd.symm hdl, ?_⟩
      walk_at "rd"
      exact q p _ (back ext) ⟨kv, by rw [upd_ne pd]; exact a1, a2, by rw [hP.len] at a3; omega⟩
def spSB (K : PySem.W.Frag) : Sp := fun vs H Q _ => ∃ (b v u : V) (W : List Bi) (cts : Cts) (s : Nat) (row : List Sg), vs = [b, v, u, .int (s : Nat)] ∧ WdV K H b W ∧ CtV K H v cts ∧ Gc cts ∧ TupV K (SgV K) H u row ∧ (∀ x ∈ row, OkW W x) ∧ row.length ≤ 900 ∧
  ∀ p H', Ex H H' → TupV K (SgV K) H' (.ref p) (row.filter (Wd.shown W cts s)) → Q (.ref p) H'
set_option maxHeartbeats 16000000 in
theorem ok_shown_by (T : Txt K mg) : FnOk P w K mg base CX0 3 T.a_shown_by T.d_shown_by ["births", "cuts", "keeper", "stand"] (spSB K) := by
  refine T.F_shown_by.ok sc_shown_by (fun vs H Q E h => ?_) (fun cdv A outer s H vs Q E hr h => ?_)
  · obtain ⟨b, v, u, W, cts, s, row, rfl, _⟩ := h
    rfl
  · obtain ⟨b, v, u, W, cts, s0, row, rfl, wd, ct, gc, hu, hok, hlen, q⟩ := h
    refine ⟨_, (pss_cons (ps_set (i := 4) sc_shown_by.nd rfl (Or.inr rfl) (pe_call (ok_cut_away T) hr (by rfl) T.g_cut_away T.F_cut_away.kp T.b_cut_away .nil pass0 (pa_cons (pv 1) (pa_cons (pv 3) pa_nil))))
        (pss_cons (ps_setLc (i := 5) (own := [("sign", 6)]) (g := gName 6) rfl sc_shown_by.nd rfl rfl (sw_true rfl rfl rfl (by decide +kernel)) (pi_tup (pv 2)) (blkOk_by (N := N_shown_by) (sc := defScope s_shown_by) (by decide +kernel)) (fun _ _ _ _ _ => pg_name (i := 6) sc_shown_by.nd rfl (Or.inl rfl)) (fun _ _ _ _ _ => (pts_one (PW.pt (pw_and (pt_cmpR op_gt (pe_ix (k_ix (K := K) rfl) (pv 6) pe_int (fun _ _ => rfl)) pe_int (nomark _)) (pw_and1 (pt_val (pe_call (ok_has_deed T) (hr.mono (by decide)) (by rfl) T.g_has_deed T.F_has_deed.kp T.b_has_deed .nil pass0 (pa_cons (pv 3) (pa_cons (pe_ix (k_ix (K := K) rfl) (pe_ix (k_ix (K := K) rfl) (pv 0) (pe_ix (k_ix (K := K) rfl) (pv 6) pe_int (fun _ _ => rfl)) (fun _ _ => rfl)) pe_int (fun _ _ => rfl)) pa_nil))))))))) (fun _ _ _ _ _ => (pv 6)))
        (pss_one (ps_ret (pe_callTy call_tupU (by rfl) T.n_tuple (by decide +kernel) (pa_cons (pe_lc (own := [("sign", 6)]) (g := gName 6) rfl sc_shown_by.nd (pi_list (pv 5)) (blkOk_by (N := N_shown_by) (sc := defScope s_shown_by) (by decide +kernel)) (fun _ _ _ _ _ => pg_name (i := 6) sc_shown_by.nd rfl (Or.inl rfl)) (fun _ _ _ _ _ => (pts_one (pt_cmp (pc_dnotin (Nat.lt_of_le_of_lt (Nat.add_le_add_left (by decide : 1 ≤ 65) _) hr.units65) (pv 6) (pv 4))))) (fun _ _ _ _ _ => (pv 6))) pa_nil)))))), ?_⟩
    walk_at "rd"
    refine ⟨v, cts, s0, rfl, ct, gc, fun pa H1 e1 aw => ?_⟩
    obtain ⟨p, xs, rfl, hp, hx⟩ := imm (R := TupV K (SgV K)) (.ex e1) hu
    have xl := hx.len
    walk_at "rd"
    refine l_lcT hp.sq (fun D i H' => ∃ acc, Ex H1 H' ∧ H' D = some (.lst acc) ∧ SgL K H' acc ((row.take i).filter fun x => decide (0 < x.1) && s0.testBit (whoOf W x.1)) ∧ acc.length ≤ i) (fun D hD => ⟨[], Same.new (Same.refl H1) hD, upd_same, .nil, Nat.le_refl _⟩) (fun D i H' hW => ?_) (fun D i z H' hD hi hW => ?_) (fun D H2 hD hW => ?_)
    · obtain ⟨_, e, _⟩ := hW
      exact (hp.up e).sq
    · obtain ⟨acc, e, ha, hA, al⟩ := hW
      obtain ⟨x, hx1, sx⟩ := hx.get hi
      have il := (List.getElem?_eq_some_iff.mp hx1).1
      have okx := hok x (List.mem_of_getElem? hx1)
      obtain ⟨bi, hb⟩ := okx.at
      have sx' := imm (R := SgV K) (.ex e) sx
      have nxt : ∀ c : Bool, (decide (0 < x.1) && s0.testBit (whoOf W x.1)) = c → (row.take (i + 1)).filter (fun x => decide (0 < x.1) && s0.testBit (whoOf W x.1)) = (row.take i).filter (fun x => decide (0 < x.1) && s0.testBit (whoOf W x.1)) ++ (if c then [x] else []) := fun c hc => by
        rw [List.take_add_one, hx1, List.filter_append]
        show _ ++ List.filter _ [x] = _
        cases c with
        | true => rw [List.filter_cons_of_pos (by exact hc), List.filter_nil]; rfl
        | false => rw [List.filter_cons_of_neg (by rw [hc]; decide), List.filter_nil]; rfl
      walk_at "rd"
      refine ⟨rfl, ?_⟩
      walk_at "rd"
      refine r_ixS0 sx' ?_
      walk_at "rd"
      by_cases x0 : 0 < x.1
      · rw [decide_eq_true (show (0 : Int) < ((x.1 : Nat) : Int) by omega)]
        walk_at "rd"
        refine r_ixS0 sx' ?_
        walk_at "rd"
        refine r_bi (imm (R := WdV K) (.ex (e1.trans e)) wd) hb fun ub hub => ?_
        walk_at "rd"
        refine r_biW hub ?_
        walk_at "rd"
        refine ⟨s0, bi.who, rfl, ?_⟩
        have ew := who_at hb
        cases hw : s0.testBit bi.who with
        | true =>
          walk_at "rd"
          have tp := Tk.put (o := .lst (acc ++ [z])) ha
          refine ⟨acc, ha, Nat.lt_of_le_of_lt (show acc.length ≤ 1000 by omega) (by decide), acc ++ [z], Same.mut e hD, upd_same, ?_, by rw [List.length_append, List.length_singleton]; omega⟩
          rw [nxt true (by rw [decide_eq_true x0, ew, hw]; rfl), if_pos rfl]
          exact (p2_imm tp hA).snoc (imm tp sx')
        | false =>
          walk_at "rd"
          refine ⟨acc, e, ha, ?_, by omega⟩
          rw [nxt false (by rw [ew, hw, Bool.and_false]), if_neg (by decide), List.append_nil]
          exact hA
      · rw [decide_eq_false (show ¬ (0 : Int) < ((x.1 : Nat) : Int) by omega)]
        walk_at "rd"
        refine ⟨acc, e, ha, ?_, by omega⟩
        rw [nxt false (by rw [decide_eq_false x0, Bool.false_and]), if_neg (by decide), List.append_nil]
        exact hA
    · obtain ⟨acc, e2, ha, hA, al⟩ := hW
      rw [xl, List.take_length] at hA
      rw [xl] at al
      obtain ⟨mid, hmid⟩ : ∃ m, m = row.filter (fun x => decide (0 < x.1) && s0.testBit (whoOf W x.1)) := ⟨_, rfl⟩
      rw [← hmid] at hA
      have fin : mid.filter (fun x => !isCut cts s0 x) = row.filter (Wd.shown W cts s0) := by
        rw [hmid, List.filter_filter]
        congr 1
        funext x
        unfold Wd.shown
        cases decide (0 < x.1) <;> cases s0.testBit (whoOf W x.1) <;> cases isCut cts s0 x <;> rfl
      have pos : ∀ x ∈ mid, 0 < x.1 := fun x hx => by
        rw [hmid] at hx
        have := (List.mem_filter.mp hx).2
        rw [Bool.and_eq_true] at this
        exact of_decide_eq_true this.1
      obtain ⟨kv, aw1, aw2, aw3⟩ := aw
      walk_at "rd"
      refine l_lcL (sqL ha) (fun D2 i H' => ∃ acc2, Ex H2 H' ∧ H' D2 = some (.lst acc2) ∧ SgL K H' acc2 ((mid.take i).filter fun x => !isCut cts s0 x) ∧ acc2.length ≤ i) (fun D2 hD2 => ⟨[], Same.new (Same.refl H2) hD2, upd_same, .nil, Nat.le_refl _⟩) (fun D2 i H' hW => ?_) (fun D2 i z H' hD2 hi hW => ?_) (fun D2 H3 hD2 hW => ?_)
      · obtain ⟨_, e, _⟩ := hW
        exact sqL (e _ _ ha)
      · obtain ⟨acc2, e, hb2, hA2, al2⟩ := hW
        obtain ⟨x, hx1, sx⟩ := hA.get hi
        have il := (List.getElem?_eq_some_iff.mp hi).1
        have sx' := imm (R := SgV K) (.ex e) sx
        have x0 := pos x (List.mem_of_getElem? hx1)
        obtain ⟨pz, rfl, hpz⟩ := id sx'
        walk_at "rd"
        refine ⟨rfl, ?_⟩
        walk_at "rd"
        refine ⟨pa, _, rfl, DGet.t (k := sgK x) (e _ _ (e2 _ _ aw1)) (hpz.own x0), ?_⟩
        rw [aw2 x]
        have nxt : (mid.take (i + 1)).filter (fun x => !isCut cts s0 x) = (mid.take i).filter (fun x => !isCut cts s0 x) ++ (if !isCut cts s0 x then [x] else []) := by
          rw [List.take_add_one, hx1, List.filter_append]
          show _ ++ List.filter _ [x] = _
          cases hc : (!isCut cts s0 x) with
          | true => rw [List.filter_cons_of_pos (by exact hc), List.filter_nil]; rfl
          | false => rw [List.filter_cons_of_neg (by rw [hc]; decide), List.filter_nil]; rfl
        rw [nxt]
        cases hc : (!isCut cts s0 x) with
        | true =>
          walk_at "rd"
          have tp := Tk.put (o := .lst (acc2 ++ [.ref pz])) hb2
          exact ⟨acc2, hb2, Nat.lt_of_le_of_lt (show acc2.length ≤ 1000 by omega) (by decide), acc2 ++ [.ref pz], Same.mut e hD2, upd_same, (p2_imm tp hA2).snoc (imm tp sx'), by rw [List.length_append, List.length_singleton]; omega⟩
        | false =>
          walk_at "rd"
          refine ⟨acc2, e, hb2, ?_, by omega⟩
          rw [if_neg (by decide), List.append_nil]
          exact hA2
      · obtain ⟨acc2, e3, hb2, hA2, al2⟩ := hW
        rw [hA.len, List.take_length, fin] at hA2
        walk_at "rd"
        exact r_tupLV hb2 hA2 fun p4 H4 np e4 h4 => q p4 H4 (((e1.trans e2).trans e3).trans e4) h4
end
end K23

namespace K23
open PySem PySem.Spec PyProof.Rows L2 Dk Tl
/-- one step of a reading -/
local macro_rules | `(tactic| walk_at "rd1") => `(tactic| first
  | ((with_reducible refine r_var (v := ?rv) ?rh ?_); (case rh => rfl))
  | with_reducible refine r_c ?_
  | with_reducible refine r_seq ?_
  | with_reducible refine r_asg ?_
  | with_reducible refine r_par ?_
  | with_reducible refine r_gname ?_
  | with_reducible refine r_op ?_
  | with_reducible refine r_forLo ?_
  | with_reducible refine r_forTo ?_
  | with_reducible refine r_forSo ?_
  | with_reducible refine r_forRo ?_
  | with_reducible refine r_forRvo ?_
  | with_reducible refine r_forZo ?_
  | with_reducible refine r_revS ?_
  | with_reducible refine r_lcRo ?_
  | with_reducible refine r_lcLo ?_
  | with_reducible refine r_yes ?_
  | with_reducible refine r_callK0 ?_
  | with_reducible refine r_break ?_
  | with_reducible refine r_forR2o ?_
  | with_reducible refine r_forEo ?_
  | with_reducible refine r_forESo ?_
  | with_reducible refine r_xfo ?_
  | with_reducible refine r_noP ?_
  | with_reducible refine r_part ?_
  | with_reducible refine r_pI ?_
  | with_reducible refine r_gcons ?_
  | with_reducible refine r_gnil ?_
  | with_reducible refine r_mkO ?_
  | with_reducible refine r_un ?_
  | with_reducible refine r_addI ?_
  | with_reducible refine r_I0 ?_
  | with_reducible refine r_U ?_
  | with_reducible refine r_cons ?_
  | with_reducible refine r_nil ?_
  | with_reducible refine r_CB ?_
  | with_reducible refine r_call ?_
  | with_reducible refine r_callS ?_
  | with_reducible refine r_int ?_
  | with_reducible refine r_max ?_
  | with_reducible refine r_min ?_
  | with_reducible refine r_test ?_
  | with_reducible refine r_B ?_
  | with_reducible refine r_blv ?_
  | with_reducible refine r_and ?_
  | with_reducible refine r_or ?_
  | with_reducible refine r_not ?_
  | with_reducible refine r_andV ?_
  | with_reducible refine r_orV ?_
  | with_reducible refine r_notV ?_
  | with_reducible refine r_ifE ?_
  | with_reducible refine r_ifS ?_
  | with_reducible refine r_ret ?_
  | with_reducible refine r_retN ?_
  | with_reducible refine r_drop ?_
  | with_reducible refine r_next ?_
  | with_reducible refine r_sl ?_
  | with_reducible refine r_gsub ?_
  | with_reducible refine r_bm ?_
  | with_reducible refine r_tup ?_
  | with_reducible refine r_lst ?_
  | with_reducible refine r_isN ?_
  | with_reducible refine r_notN ?_
  | with_reducible refine r_chain ?_
  | with_reducible refine r_lcEio ?_
  | with_reducible refine r_forEi ?_
  | with_reducible refine r_lcTo ?_
  | with_reducible refine r_m1 ?_
  | with_reducible refine r_dget ?_
  | with_reducible refine r_din ?_
  | with_reducible refine r_dnotin ?_
  | with_reducible refine r_starC ?_
  | with_reducible refine r_callKS ?_
  | with_reducible refine r_itt ?_
  | with_reducible refine r_iff ?_
  | with_reducible refine r_ittN ?_
  | with_reducible refine r_iffN ?_
  | ((with_reducible refine r_ittD ?rh ?_); (case rh => rfl))
  | ((with_reducible refine r_iffD ?rh ?_); (case rh => rfl))
  | ((with_reducible refine r_modP ?rh ?_); (case rh => decide))
  | ((with_reducible refine r_eq ?rh ?_); (case rh => rfl))
  | ((with_reducible refine r_eqP ?rh ?_); (case rh => rfl))
  | ((with_reducible refine r_ne ?rh ?_); (case rh => rfl)))
local macro_rules | `(tactic| walk_at "rd") => `(tactic| repeat walk_at "rd1")
local macro_rules | `(tactic| walk_at "isi") => `(tactic| first | refine r_isi (b := true) (by assumption) (by decide +kernel) ?_ | refine r_isi (b := false) (by assumption) (by decide +kernel) ?_)
local macro_rules | `(tactic| walk_at "rs1") => `(tactic| first
  | with_reducible refine r_seq ?_
  | with_reducible refine r_asg ?_
  | with_reducible refine r_gname ?_
  | with_reducible refine r_ret ?_)
local macro_rules | `(tactic| walk_at "rs") => `(tactic| repeat walk_at "rs1")

open Wd
section
variable {P : Program} {w : World} {K : PySem.W.Frag} {mg : Str → Option Value} {base : Heap}
/-- the row that the own keeper shows -/
def ownRow (W : List Bi) (cts : Cts) (s : Nat) : List Sg := (laid W [] W.length).filter (Wd.shown W cts s)
theorem own_ok {W : List Bi} (gw : Gw W) (cts : Cts) (s : Nat) : (∀ x ∈ ownRow W cts s, OkW W x ∧ 0 < x.1) ∧ (ownRow W cts s).length ≤ 800 := by
  have kp := laid_kp gw.wv (ch := []) W.length gw.wv.n0 (Nat.le_refl _)
  refine ⟨fun x hx => ?_, Nat.le_trans (List.length_filter_le _ _) (row_lens gw kp (Nat.le_refl _))⟩
  obtain ⟨h1, h2⟩ := List.mem_filter.mp hx
  refine ⟨(kp.mem x).mp h1, ?_⟩
  unfold Wd.shown at h2
  rw [Bool.and_eq_true] at h2
  exact of_decide_eq_true h2.1
def spSS (K : PySem.W.Frag) : Sp := fun vs H Q _ => ∃ (b v : V) (W : List Bi) (cts : Cts) (s : Nat), vs = [b, v, .int (s : Nat)] ∧ WdV K H b W ∧ Gw W ∧ CtV K H v cts ∧ Gc cts ∧
  ∀ p H', Ex H H' → TupV K (SgV K) H' (.ref p) (ownRow W cts s) → Q (.ref p) H'
theorem ok_shown_signs (T : Txt K mg) : FnOk P w K mg base CX0 4 T.a_shown_signs T.d_shown_signs ["births", "cuts", "stand"] (spSS K) := by
  refine T.F_shown_signs.ok sc_shown_signs (fun vs H Q E h => ?_) (fun cdv A outer s H vs Q E hr h => ?_)
  · obtain ⟨b, v, W, cts, s, rfl, _⟩ := h
    rfl
  · obtain ⟨b, v, W, cts, s0, rfl, wd, gw, ct, gc, q⟩ := h
    refine ⟨_, (pss_one (ps_ret (pe_call (ok_shown_by T) hr (by rfl) T.g_shown_by T.F_shown_by.kp T.b_shown_by .nil pass0 (pa_cons (pv 0) (pa_cons (pv 1) (pa_cons (pe_call (ok_own_keeper T) hr (by rfl) T.g_own_keeper T.F_own_keeper.kp T.b_own_keeper .nil pass0 (pa_cons (pv 0) pa_nil)) (pa_cons (pv 2) pa_nil))))))), ?_⟩
    have kp := laid_kp gw.wv (ch := []) W.length gw.wv.n0 (Nat.le_refl _)
    walk_at "rd"
    refine ⟨b, W, rfl, wd, gw, fun p H1 e1 h1 => ?_⟩
    walk_at "rd"
    exact ⟨b, v, .ref p, W, cts, s0, _, rfl, imm (R := WdV K) (.ex e1) wd, ct.up e1, gc, h1, (fun x hx => (kp.mem x).mp hx), Nat.le_trans (row_lens gw kp (Nat.le_refl _)) (by decide), fun p2 H2 e2 h2 => q p2 H2 (e1.trans e2) h2⟩
def spSet (K : PySem.W.Frag) : Sp := fun vs H Q _ => ∃ (b v : V) (W : List Bi) (cts : Cts) (s : Nat), vs = [b, v, .int (s : Nat)] ∧ WdV K H b W ∧ Gw W ∧ CtV K H v cts ∧ Gc cts ∧
  ∀ c o H', Ex H H' → Fu W (ownRow W cts s) o → (c = true ↔ o = none) → Q (.bl c) H'
theorem ok_is_settled (T : Txt K mg) : FnOk P w K mg base CX0 5 T.a_is_settled T.d_is_settled ["births", "cuts", "stand"] (spSet K) := by
  refine T.F_is_settled.ok sc_is_settled (fun vs H Q E h => ?_) (fun cdv A outer s H vs Q E hr h => ?_)
  · obtain ⟨b, v, W, cts, s, rfl, _⟩ := h
    rfl
  · obtain ⟨b, v, W, cts, s0, rfl, wd, gw, ct, gc, q⟩ := h
    refine ⟨_, (pss_one (ps_ret (pe_cmpR op_isU (pe_call (ok_first_untold T) hr (by rfl) T.g_first_untold T.F_first_untold.kp T.b_first_untold .nil pass0 (pa_cons (pv 0) (pa_cons (pe_call (ok_shown_signs T) hr (by rfl) T.g_shown_signs T.F_shown_signs.kp T.b_shown_signs .nil pass0 (pa_cons (pv 0) (pa_cons (pv 1) (pa_cons (pv 2) pa_nil)))) pa_nil))) pe_non (nomark _)))), ?_⟩
    obtain ⟨ok1, ok2⟩ := own_ok gw cts s0
    walk_at "rd"
    refine ⟨b, v, W, cts, s0, rfl, wd, gw, ct, gc, fun p H1 e1 h1 => ?_⟩
    walk_at "rd"
    refine ⟨b, .ref p, W, _, rfl, imm (R := WdV K) (.ex e1) wd, gw, h1, (fun x hx => (ok1 x hx).1), fun u o H2 e2 hu hf => ?_⟩
    walk_at "rd"
    cases o with
    | none =>
      rw [show u = V.non from hu]
      exact q true none H2 (e1.trans e2) hf ⟨fun _ => rfl, fun _ => rfl⟩
    | some z =>
      obtain ⟨pz, a, c, rfl, _⟩ := (show SpV K H2 u z from hu)
      rw [decide_eq_false (show ¬ V.ref pz = V.non from fun g => by cases g)]
      exact q false (some z) H2 (e1.trans e2) hf ⟨fun g => (by cases g), fun g => (by cases g)⟩
theorem ok_init_Unsettled (T : Txt K mg) : FnOk P w K mg base CX0 1 T.ai_Unsettled T.d_Unsettled ["self", "one", "other"] (spInit2 T.c_Unsettled "one" "other") := by
  refine T.F_Unsettled.ok sc_init_Unsettled (fun vs H Q E h => ?_) (fun cdv A outer s H vs Q E hr h => ?_)
  · obtain ⟨a, v, u, rfl, _⟩ := h
    rfl
  · obtain ⟨a, v, u, rfl, ha, q⟩ := h
    refine ⟨_, pss_cons (ps_ost (pv 0) (pv 1)) (pss_one (ps_ost (pv 0) (pv 2))), ?_⟩
    refine ⟨v, rfl, .ref a, rfl, a, T.c_Unsettled, rfl, T.o_Unsettled, T.na_Unsettled_one, .inl ⟨ha, fun dx n1 n2 => ?_⟩⟩
    exact ⟨u, rfl, .ref a, rfl, a, T.c_Unsettled, rfl, T.o_Unsettled, T.na_Unsettled_other, .inr ⟨dx, [("one", v)], upd_same, by rw [upd_ne n2]; exact upd_same, by simp, q dx n1 n2⟩⟩
def spRowOfB (K : PySem.W.Frag) (C : Addr) : Sp := fun vs H Q E => ∃ (b v : V) (W : List Bi) (cts : Cts) (s : Nat), vs = [b, v, .int (s : Nat)] ∧ WdV K H b W ∧ Gw W ∧ CtV K H v cts ∧ Gc cts ∧
  (∀ p H', Ex H H' → Fu W (ownRow W cts s) none → TupV K (SgV K) H' (.ref p) (ownRow W cts s) → Q (.ref p) H') ∧
  ∀ a c H' d va vc, Ex H H' → H d = none → Fu W (ownRow W cts s) (some (a, c)) → H' d = some (.xd [("other", vc), ("one", va)]) → SgV K H' va a → SgV K H' vc c → E (.ref C) (some d) H'
theorem ok_row_of (T : Txt K mg) : FnOk P w K mg base (L2.CX P w) 5 T.a_row_of T.d_row_of ["births", "cuts", "stand"] (spRowOfB K T.c_Unsettled) := by
  refine T.F_row_of.okX sc_row_of (fun vs H Q E h => ?_) (fun cdv A outer s H vs Q E hr h => ?_)
  · obtain ⟨b, v, W, cts, s, rfl, _⟩ := h
    rfl
  · obtain ⟨b, v, W, cts, s0, rfl, wd, gw, ct, gc, q, qE⟩ := h
    refine ⟨_, (pss_cons (ps_set (i := 3) sc_row_of.nd rfl (Or.inl rfl) (pe_call (ok_shown_signs T) hr (by rfl) T.g_shown_signs T.F_shown_signs.kp T.b_shown_signs .nil pass0 (pa_cons (pv 0) (pa_cons (pv 1) (pa_cons (pv 2) pa_nil)))))
        (pss_cons (ps_set (i := 4) sc_row_of.nd rfl (Or.inl rfl) (pe_call (ok_first_untold T) hr (by rfl) T.g_first_untold T.F_first_untold.kp T.b_first_untold .nil pass0 (pa_cons (pv 0) (pa_cons (pv 3) pa_nil))))
        (pss_cons (ps_if (pt_cmpR op_isnotU (pv 4) pe_non (nomark _)) (pss_one (ps_raise rfl (takes_of rfl rfl rfl rfl) (pmk_oex T.o_Unsettled T.i_Unsettled T.ti_Unsettled (ok_init_Unsettled T) (hr.mono (by decide)) T.b_Unsettled .nil pass0 (by rfl) T.g_Unsettled (pa_cons (pe_ix ix_seq (pv 4) pe_int (fun _ _ => rfl)) (pa_cons (pe_ix ix_seq (pv 4) pe_int (fun _ _ => rfl)) pa_nil))))) pss_nil)
        (pss_one (ps_ret (pv 3)))))), ?_⟩
    obtain ⟨ok1, ok2⟩ := own_ok gw cts s0
    walk_at "rd"
    refine ⟨b, v, W, cts, s0, rfl, wd, gw, ct, gc, fun p H1 e1 h1 => ?_⟩
    walk_at "rd"
    refine ⟨b, .ref p, W, _, rfl, imm (R := WdV K) (.ex e1) wd, gw, h1, (fun x hx => (ok1 x hx).1), fun u o H2 e2 hu hf => ?_⟩
    walk_at "rd"
    cases o with
    | none =>
      rw [show u = V.non from hu]
      walk_at "rd"
      exact q p H2 (e1.trans e2) hf (imm (R := TupV K (SgV K)) (.ex e2) h1)
    | some z =>
      have hu : SpV K H2 u z := hu
      obtain ⟨pz, va, vc, rfl, hpz, sa, sc⟩ := id hu
      rw [decide_eq_false (show ¬ V.ref pz = V.non from fun g => by cases g)]
      walk_at "rd"
      refine r_ixP0 hu fun v1 s1 => ?_
      walk_at "rd"
      refine r_ixP1 hu fun v2 s2 => ?_
      walk_at "rd"
      refine r_raise2 fun d hd => ?_
      have ed := Same.new (o := .xd [("other", v2), ("one", v1)]) (Same.refl H2) hd
      exact qE z.1 z.2 _ d v1 v2 ((e1.trans e2).trans ed) ((e1.trans e2).free hd) hf upd_same (imm (R := SgV K) (.ex ed) s1) (imm (R := SgV K) (.ex ed) s2)
def spTextOf (K : PySem.W.Frag) (C : Addr) : Sp := fun vs H Q E => ∃ (b v : V) (W : List Bi) (cts : Cts) (s : Nat), vs = [b, v, .int (s : Nat)] ∧ WdV K H b W ∧ Gw W ∧ CtV K H v cts ∧ Gc cts ∧
  (∀ H', Ex H H' → Fu W (ownRow W cts s) none → Q (.str (lettersOf W (ownRow W cts s))) H') ∧
  ∀ a c H' d va vc, Ex H H' → H d = none → Fu W (ownRow W cts s) (some (a, c)) → H' d = some (.xd [("other", vc), ("one", va)]) → SgV K H' va a → SgV K H' vc c → E (.ref C) (some d) H'
theorem ok_text_of (T : Txt K mg) : FnOk P w K mg base (L2.CX P w) 6 T.a_text_of T.d_text_of ["births", "cuts", "stand"] (spTextOf K T.c_Unsettled) := by
  refine T.F_text_of.okX sc_text_of (fun vs H Q E h => ?_) (fun cdv A outer s H vs Q E hr h => ?_)
  · obtain ⟨b, v, W, cts, s, rfl, _⟩ := h
    rfl
  · obtain ⟨b, v, W, cts, s0, rfl, wd, gw, ct, gc, q, qE⟩ := h
    refine ⟨_, (pss_one (ps_ret (pe_call (ok_letters_of T) (hr.mono (by decide)) (by rfl) T.g_letters_of T.F_letters_of.kp T.b_letters_of .nil pass0 (pa_cons (pv 0) (pa_cons (pe_call (ok_row_of T) hr (by rfl) T.g_row_of T.F_row_of.kp T.b_row_of .nil (passes_call (takes_of rfl rfl rfl rfl) (fun _ _ _ _ h => h)) (pa_cons (pv 0) (pa_cons (pv 1) (pa_cons (pv 2) pa_nil)))) pa_nil))))), ?_⟩
    obtain ⟨ok1, ok2⟩ := own_ok gw cts s0
    walk_at "rd"
    refine ⟨b, v, W, cts, s0, rfl, wd, gw, ct, gc, fun p H1 e1 hf h1 => ?_, fun a c H' d va vc e hd hf hx sa sc => qE a c H' d va vc e hd hf hx sa sc⟩
    walk_at "rd"
    exact ⟨b, .ref p, W, _, rfl, imm (R := WdV K) (.ex e1) wd, gw, h1, ok1, Nat.le_trans ok2 (by decide), fun H2 e2 => q H2 (e1.trans e2) hf⟩
end
end K23

namespace K23
open PySem PySem.Spec PyProof.Rows L2 Dk Tl
/-- one step of a reading -/
local macro_rules | `(tactic| walk_at "rd1") => `(tactic| first
  | ((with_reducible refine r_var (v := ?rv) ?rh ?_); (case rh => rfl))
  | with_reducible refine r_c ?_
  | with_reducible refine r_seq ?_
  | with_reducible refine r_asg ?_
  | with_reducible refine r_par ?_
  | with_reducible refine r_gname ?_
  | with_reducible refine r_op ?_
  | with_reducible refine r_forLo ?_
  | with_reducible refine r_forTo ?_
  | with_reducible refine r_forSo ?_
  | with_reducible refine r_forRo ?_
  | with_reducible refine r_forRvo ?_
  | with_reducible refine r_forZo ?_
  | with_reducible refine r_revS ?_
  | with_reducible refine r_lcRo ?_
  | with_reducible refine r_lcLo ?_
  | with_reducible refine r_yes ?_
  | with_reducible refine r_callK0 ?_
  | with_reducible refine r_break ?_
  | with_reducible refine r_forR2o ?_
  | with_reducible refine r_forEo ?_
  | with_reducible refine r_forESo ?_
  | with_reducible refine r_xfo ?_
  | with_reducible refine r_noP ?_
  | with_reducible refine r_part ?_
  | with_reducible refine r_pI ?_
  | with_reducible refine r_gcons ?_
  | with_reducible refine r_gnil ?_
  | with_reducible refine r_mkO ?_
  | with_reducible refine r_un ?_
  | with_reducible refine r_addI ?_
  | with_reducible refine r_I0 ?_
  | with_reducible refine r_U ?_
  | with_reducible refine r_cons ?_
  | with_reducible refine r_nil ?_
  | with_reducible refine r_CB ?_
  | with_reducible refine r_call ?_
  | with_reducible refine r_callS ?_
  | with_reducible refine r_int ?_
  | with_reducible refine r_max ?_
  | with_reducible refine r_min ?_
  | with_reducible refine r_test ?_
  | with_reducible refine r_B ?_
  | with_reducible refine r_blv ?_
  | with_reducible refine r_and ?_
  | with_reducible refine r_or ?_
  | with_reducible refine r_not ?_
  | with_reducible refine r_andV ?_
  | with_reducible refine r_orV ?_
  | with_reducible refine r_notV ?_
  | with_reducible refine r_ifE ?_
  | with_reducible refine r_ifS ?_
  | with_reducible refine r_ret ?_
  | with_reducible refine r_retN ?_
  | with_reducible refine r_drop ?_
  | with_reducible refine r_next ?_
  | with_reducible refine r_sl ?_
  | with_reducible refine r_gsub ?_
  | with_reducible refine r_bm ?_
  | with_reducible refine r_tup ?_
  | with_reducible refine r_lst ?_
  | with_reducible refine r_isN ?_
  | with_reducible refine r_notN ?_
  | with_reducible refine r_chain ?_
  | with_reducible refine r_lcEio ?_
  | with_reducible refine r_forEi ?_
  | with_reducible refine r_lcTo ?_
  | with_reducible refine r_m1 ?_
  | with_reducible refine r_dget ?_
  | with_reducible refine r_din ?_
  | with_reducible refine r_dnotin ?_
  | with_reducible refine r_starC ?_
  | with_reducible refine r_callKS ?_
  | with_reducible refine r_itt ?_
  | with_reducible refine r_iff ?_
  | with_reducible refine r_ittN ?_
  | with_reducible refine r_iffN ?_
  | ((with_reducible refine r_ittD ?rh ?_); (case rh => rfl))
  | ((with_reducible refine r_iffD ?rh ?_); (case rh => rfl))
  | ((with_reducible refine r_modP ?rh ?_); (case rh => decide))
  | ((with_reducible refine r_eq ?rh ?_); (case rh => rfl))
  | ((with_reducible refine r_eqP ?rh ?_); (case rh => rfl))
  | ((with_reducible refine r_ne ?rh ?_); (case rh => rfl)))
local macro_rules | `(tactic| walk_at "rd") => `(tactic| repeat walk_at "rd1")
local macro_rules | `(tactic| walk_at "isi") => `(tactic| first | refine r_isi (b := true) (by assumption) (by decide +kernel) ?_ | refine r_isi (b := false) (by assumption) (by decide +kernel) ?_)
local macro_rules | `(tactic| walk_at "rs1") => `(tactic| first
  | with_reducible refine r_seq ?_
  | with_reducible refine r_asg ?_
  | with_reducible refine r_gname ?_
  | with_reducible refine r_ret ?_)
local macro_rules | `(tactic| walk_at "rs") => `(tactic| repeat walk_at "rs1")

open Wd
abbrev Lots := List (Nat × List Sg)
/-- lists of lists, all at addresses that F allows -/
def LtV (F : Addr → Prop) (K : PySem.W.Frag) (H : Hp) (v : V) (lots : Lots) : Prop := ∃ (p : Addr) (xs : List V), v = .ref p ∧ F p ∧ H p = some (.lst xs) ∧
  P2 (fun v (e : Nat × List Sg) => ∃ (q r : Addr) (gs : List V), v = .ref q ∧ F q ∧ F r ∧ H q = some (.lst [.int (e.1 : Nat), .ref r]) ∧ H r = some (.lst gs) ∧ SgL K H gs e.2) xs lots
theorem LtV.keep {F : Addr → Prop} {K : PySem.W.Frag} {H H' : Hp} {v : V} {lots : Lots} (k : ∀ a o, F a → H a = some o → H' a = some o) (t : Tk H H') (h : LtV F K H v lots) : LtV F K H' v lots := by
  obtain ⟨p, xs, h1, h2, h3, h4⟩ := h
  refine ⟨p, xs, h1, h2, k _ _ h2 h3, h4.imp fun v e z => ?_⟩
  obtain ⟨q, r, gs, a1, a2, a3, a4, a5, a6⟩ := z
  exact ⟨q, r, gs, a1, a2, a3, k _ _ a2 a4, k _ _ a3 a5, p2_imm t a6⟩
theorem LtV.up {F : Addr → Prop} {K : PySem.W.Frag} {H H' : Hp} {v : V} {lots : Lots} (e : Ex H H') (h : LtV F K H v lots) : LtV F K H' v lots := h.keep (fun a o _ q => e _ _ q) (.ex e)
/-- the law's own cuts -/
def lotCut (lots : Lots) (s : Nat) (x : Sg) : Bool := lots.any fun e => s.testBit e.1 && decide (x ∈ e.2)
def seenB (W : List Bi) (lots : Lots) (s : Nat) (x : Sg) : Bool := decide (0 < x.1) && (s.testBit (whoOf W x.1) && !lotCut lots s x)
section
variable {P : Program} {w : World} {K : PySem.W.Frag} {mg : Str → Option Value} {base : Heap}
def spIsCut (K : PySem.W.Frag) : Sp := fun vs H Q _ => ∃ (F : Addr → Prop) (v u : V) (lots : Lots) (s : Nat) (x : Sg), vs = [v, .int (s : Nat), u] ∧ LtV F K H v lots ∧ SgV K H u x ∧ Q (.bl (lotCut lots s x)) H
theorem ok_law_is_cut (T : Txt K mg) : FnOk P w K mg base CX0 1 T.a_law_is_cut T.d_law_is_cut ["_law_lots", "_law_mask", "_law_mark"] (spIsCut K) := by
  refine T.F_law_is_cut.ok sc_law_is_cut (fun vs H Q E h => ?_) (fun cdv A outer s H vs Q E hr h => ?_)
  · obtain ⟨F, v, u, lots, s, x, rfl, _⟩ := h
    rfl
  · obtain ⟨F, v, u, lots, s0, x, rfl, ⟨p, xs, rfl, _, hp, hx⟩, hu, q⟩ := h
    refine ⟨_, (pss_cons (ps_for PassesOwn.never rfl (pi_list (pv 0)) (pg_unl rfl (pgs_cons (pg_name (i := 3) sc_law_is_cut.nd rfl (Or.inl rfl)) (pgs_cons (pg_name (i := 4) sc_law_is_cut.nd rfl (Or.inl rfl)) pgs_nil))) (pss_one (ps_if (PW.pt (pw_and (pt_cmpR (op_eqU hr.units) (pe_op op_and (pe_op op_shr (pv 1) (pv 3)) pe_int) pe_int (nomark _)) (pw_and1 (pt_cmpR (op_inD hr.units65) (pv 2) (pv 4) (by rfl))))) (pss_one (ps_ret pe_bl)) pss_nil)))
        (pss_one (ps_ret pe_bl))), ?_⟩
    walk_at "rd"
    refine l_L (sqL hp) (fun i σ H' => H' = H ∧ ((lots.take i).any fun e => s0.testBit e.1 && decide (x ∈ e.2)) = false ∧ ∃ y3 y4, σ = [some (.ref p), some (.int (s0 : Nat)), some u, y3, y4]) ⟨rfl, rfl, none, none, rfl⟩ (fun i σ H' hW => ?_) (fun i z σ H' hi hW => ?_) (fun σ H' hW => ?_)
    · obtain ⟨rfl, _⟩ := hW
      exact sqL hp
    · obtain ⟨rfl, hno, y3, y4, rfl⟩ := hW
      obtain ⟨e, he, qa, ra, gs, rfl, _, _, hq, hrr, hgs⟩ := hx.get hi
      have stay : (s0.testBit e.1 && decide (x ∈ e.2)) = false → ((lots.take (i + 1)).any fun e => s0.testBit e.1 && decide (x ∈ e.2)) = false := fun h => by
        rw [List.take_add_one, he, List.any_append, hno]
        simp only [Option.toList, List.any_cons, List.any_nil, h, Bool.or_false]
      refine r_gunl (sqL hq) rfl ?_
      walk_at "rd"
      refine r_I (by omega) ?_
      walk_at "rd"
      rw [bit_val]
      cases hb : s0.testBit e.1 with
      | false =>
        walk_at "rd"
        exact ⟨rfl, stay (by rw [hb]; rfl), _, _, rfl⟩
      | true =>
        walk_at "rd"
        refine r_inSg hu (sqL hrr) hgs ?_
        cases hc : decide (x ∈ e.2) with
        | false =>
          walk_at "rd"
          exact ⟨rfl, stay (by rw [hb, hc]; rfl), _, _, rfl⟩
        | true =>
          walk_at "rd"
          have : lotCut lots s0 x = true := List.any_eq_true.mpr ⟨e, List.mem_of_getElem? he, by rw [hb, hc]; rfl⟩
          rw [this] at q
          exact q
    · obtain ⟨rfl, hno, y3, y4, rfl⟩ := hW
      rw [hx.len, List.take_length] at hno
      rw [show lotCut lots s0 x = false from hno] at q
      walk_at "rd"
      exact q
/-- a row, as a list or as a tuple -/
def RwV (K : PySem.W.Frag) (H : Hp) (v : V) (row : List Sg) : Prop := TupV K (SgV K) H v row ∨ ∃ p xs, v = .ref p ∧ H p = some (.lst xs) ∧ SgL K H xs row
def spSeen (K : PySem.W.Frag) : Sp := fun vs H Q _ => ∃ (F : Addr → Prop) (b v u : V) (W : List Bi) (lots : Lots) (s : Nat) (row : List Sg), vs = [b, v, .int (s : Nat), u] ∧ WdV K H b W ∧ LtV F K H v lots ∧ RwV K H u row ∧ (∀ x ∈ row, OkW W x) ∧ row.length ≤ 900 ∧
  ∀ p H' xs, Ex H H' → H p = none → H' p = some (.lst xs) → SgL K H' xs (row.filter (seenB W lots s)) → Q (.ref p) H'
set_option maxHeartbeats 16000000 in
theorem ok_law_seen (T : Txt K mg) : FnOk P w K mg base CX0 2 T.a_law_seen T.d_law_seen ["_law_world", "_law_lots", "_law_mask", "_law_row"] (spSeen K) := by
  refine T.F_law_seen.ok sc_law_seen (fun vs H Q E h => ?_) (fun cdv A outer s H vs Q E hr h => ?_)
  · obtain ⟨F, b, v, u, W, lots, s, row, rfl, _⟩ := h
    rfl
  · obtain ⟨F, b, v, u, W, lots, s0, row, rfl, wd, lt, hu, hok, hlen, q⟩ := h
    refine ⟨_, (pss_cons (ps_set (i := 4) sc_law_seen.nd rfl (Or.inl rfl) (pe_lst pa_nil))
        (pss_cons (ps_for PassesOwn.never rfl (pi_eith (pv 3)) (pg_name (i := 5) sc_law_seen.nd rfl (Or.inl rfl)) (pss_one (ps_if (PW.pt (pw_and (pt_cmpR op_gt (pe_ix ix_seq (pv 5) pe_int (fun _ _ => rfl)) pe_int (nomark _)) (pw_and (pt_cmpR (op_eqU hr.units) (pe_op op_and (pe_op op_shr (pv 2) (pe_ix ix_seq (pe_ix ix_seq (pv 0) (pe_ix ix_seq (pv 5) pe_int (fun _ _ => rfl)) (fun _ _ => rfl)) pe_int (fun _ _ => rfl))) pe_int) pe_int (nomark _)) (pw_and1 (pt_not (pt_val (pe_call (ok_law_is_cut T) hr (by rfl) T.g_law_is_cut T.F_law_is_cut.kp T.b_law_is_cut .nil pass0 (pa_cons (pv 1) (pa_cons (pv 2) (pa_cons (pv 5) pa_nil)))))))))) (pss_one (ps_expr (pe_bm PySem.F.plainAttrs_list PySem.F.slot_list_append PySem.F.type_list_append mt_append (pv 4) (pa_cons (pv 5) pa_nil)))) pss_nil)))
        (pss_one (ps_ret (pv 4))))), ?_⟩
    walk_at "rd"
    refine r_small nsz fun l nl => ?_
    obtain ⟨H1, k1, e1, h1⟩ := nL (.lst []) nl
    rw [← k1]
    walk_at "rd"
    have nxt : ∀ {i : Nat} {x : Sg} {c : Bool}, row[i]? = some x → seenB W lots s0 x = c → (row.take (i + 1)).filter (seenB W lots s0) = (row.take i).filter (seenB W lots s0) ++ (if c then [x] else []) := fun {i x c} hx1 hc => by
      rw [List.take_add_one, hx1, List.filter_append]
      show _ ++ List.filter _ [x] = _
      cases c with
      | true => rw [List.filter_cons_of_pos (by exact hc), List.filter_nil]; rfl
      | false => rw [List.filter_cons_of_neg (by rw [hc]; decide), List.filter_nil]; rfl
    obtain ⟨Pv, hPv⟩ : ∃ Pv : Nat → L2.St → Hp → Prop, Pv = fun i σ H' => ∃ acc y5, σ = [some b, some v, some (.int (s0 : Nat)), some u, some (.ref l), y5] ∧ Ex H H' ∧ H' l = some (.lst acc) ∧ SgL K H' acc ((row.take i).filter (seenB W lots s0)) ∧ acc.length ≤ i := ⟨_, rfl⟩
    rcases hu with ⟨p, xs, rfl, hp, hx⟩ | ⟨p, xs, rfl, hp, hx⟩
    · refine l_ET (hp.up e1).sq Pv (by rw [hPv]; exact ⟨[], none, rfl, e1, h1, .nil, Nat.le_refl _⟩) (fun i σ H' hW => ?_) (fun i z σ H' hi hW => ?_) (fun σ H' hW => ?_)
      · rw [hPv] at hW
        obtain ⟨_, _, _, e, _⟩ := hW
        exact (hp.up e).sq
      · rw [hPv] at hW ⊢
        obtain ⟨acc, y5, rfl, e, hl, hA, al⟩ := hW
        obtain ⟨x, hx1, sx⟩ := hx.get hi
        have sx' := imm (R := SgV K) (.ex e) sx
        have il := (List.getElem?_eq_some_iff.mp hx1).1
        have okx := hok x (List.mem_of_getElem? hx1)
        obtain ⟨bi, hb⟩ := okx.at
        have ew := who_at hb
        have no : seenB W lots s0 x = false → ∃ acc' y5, ([some b, some v, some (V.int (s0 : Nat)), some (V.ref p), some (V.ref l), some z] : L2.St) = [some b, some v, some (.int (s0 : Nat)), some (.ref p), some (.ref l), y5] ∧ Ex H H' ∧ H' l = some (.lst acc') ∧ SgL K H' acc' ((row.take (i + 1)).filter (seenB W lots s0)) ∧ acc'.length ≤ i + 1 := fun h => ⟨acc, _, rfl, e, hl, by rw [nxt hx1 h, if_neg (by decide), List.append_nil]; exact hA, by omega⟩
        walk_at "rd"
        refine r_ixS0 sx' ?_
        walk_at "rd"
        by_cases x0 : 0 < x.1
        · rw [decide_eq_true (show (0 : Int) < ((x.1 : Nat) : Int) by omega)]
          walk_at "rd"
          refine r_ixS0 sx' ?_
          walk_at "rd"
          refine r_bi (imm (R := WdV K) (.ex e) wd) hb fun ub hub => ?_
          walk_at "rd"
          refine r_biW hub ?_
          walk_at "rd"
          refine r_I (by omega) ?_
          walk_at "rd"
          rw [bit_val]
          cases hw : s0.testBit bi.who with
          | false =>
            walk_at "rd"
            exact no (by unfold seenB; rw [ew, hw, Bool.false_and, Bool.and_false])
          | true =>
            walk_at "rd"
            refine ⟨F, v, z, lots, s0, x, rfl, lt.up e, sx', ?_⟩
            cases hc : lotCut lots s0 x with
            | true =>
              walk_at "rd"
              exact no (by unfold seenB; rw [hc]; simp)
            | false =>
              walk_at "rd"
              refine r_tyL (sqL hl) ?_
              walk_at "rd"
              refine r_app hl (Nat.lt_of_le_of_lt (show acc.length ≤ 1000 by omega) (by decide)) ?_
              have tp := Tk.put (o := .lst (acc ++ [z])) hl
              refine ⟨acc ++ [z], _, rfl, Same.mut e nl, upd_same, ?_, by rw [List.length_append, List.length_singleton]; omega⟩
              rw [nxt hx1 (show seenB W lots s0 x = true by unfold seenB; rw [decide_eq_true x0, ew, hw, hc]; rfl), if_pos rfl]
              exact (p2_imm tp hA).snoc (imm tp sx')
        · rw [decide_eq_false (show ¬ (0 : Int) < ((x.1 : Nat) : Int) by omega)]
          walk_at "rd"
          exact no (by unfold seenB; rw [decide_eq_false x0, Bool.false_and])
      · rw [hPv] at hW
        obtain ⟨acc, y5, rfl, e, hl, hA, al⟩ := hW
        rw [hx.len, List.take_length] at hA
        walk_at "rd"
        exact q l H' acc e nl hl hA
    · refine l_EL (sqL (e1 _ _ hp)) Pv (by rw [hPv]; exact ⟨[], none, rfl, e1, h1, .nil, Nat.le_refl _⟩) (fun i σ H' hW => ?_) (fun i z σ H' hi hW => ?_) (fun σ H' hW => ?_)
      · rw [hPv] at hW
        obtain ⟨_, _, _, e, _⟩ := hW
        exact sqL (e _ _ hp)
      · rw [hPv] at hW ⊢
        obtain ⟨acc, y5, rfl, e, hl, hA, al⟩ := hW
        obtain ⟨x, hx1, sx⟩ := hx.get hi
        have sx' := imm (R := SgV K) (.ex e) sx
        have il := (List.getElem?_eq_some_iff.mp hx1).1
        have okx := hok x (List.mem_of_getElem? hx1)
        obtain ⟨bi, hb⟩ := okx.at
        have ew := who_at hb
        have no : seenB W lots s0 x = false → ∃ acc' y5, ([some b, some v, some (V.int (s0 : Nat)), some (V.ref p), some (V.ref l), some z] : L2.St) = [some b, some v, some (.int (s0 : Nat)), some (.ref p), some (.ref l), y5] ∧ Ex H H' ∧ H' l = some (.lst acc') ∧ SgL K H' acc' ((row.take (i + 1)).filter (seenB W lots s0)) ∧ acc'.length ≤ i + 1 := fun h => ⟨acc, _, rfl, e, hl, by rw [nxt hx1 h, if_neg (by decide), List.append_nil]; exact hA, by omega⟩
        walk_at "rd"
        refine r_ixS0 sx' ?_
        walk_at "rd"
        by_cases x0 : 0 < x.1
        · rw [decide_eq_true (show (0 : Int) < ((x.1 : Nat) : Int) by omega)]
          walk_at "rd"
          refine r_ixS0 sx' ?_
          walk_at "rd"
          refine r_bi (imm (R := WdV K) (.ex e) wd) hb fun ub hub => ?_
          walk_at "rd"
          refine r_biW hub ?_
          walk_at "rd"
          refine r_I (by omega) ?_
          walk_at "rd"
          rw [bit_val]
          cases hw : s0.testBit bi.who with
          | false =>
            walk_at "rd"
            exact no (by unfold seenB; rw [ew, hw, Bool.false_and, Bool.and_false])
          | true =>
            walk_at "rd"
            refine ⟨F, v, z, lots, s0, x, rfl, lt.up e, sx', ?_⟩
            cases hc : lotCut lots s0 x with
            | true =>
              walk_at "rd"
              exact no (by unfold seenB; rw [hc]; simp)
            | false =>
              walk_at "rd"
              refine r_tyL (sqL hl) ?_
              walk_at "rd"
              refine r_app hl (Nat.lt_of_le_of_lt (show acc.length ≤ 1000 by omega) (by decide)) ?_
              have tp := Tk.put (o := .lst (acc ++ [z])) hl
              refine ⟨acc ++ [z], _, rfl, Same.mut e nl, upd_same, ?_, by rw [List.length_append, List.length_singleton]; omega⟩
              rw [nxt hx1 (show seenB W lots s0 x = true by unfold seenB; rw [decide_eq_true x0, ew, hw, hc]; rfl), if_pos rfl]
              exact (p2_imm tp hA).snoc (imm tp sx')
        · rw [decide_eq_false (show ¬ (0 : Int) < ((x.1 : Nat) : Int) by omega)]
          walk_at "rd"
          exact no (by unfold seenB; rw [decide_eq_false x0, Bool.false_and])
      · rw [hPv] at hW
        obtain ⟨acc, y5, rfl, e, hl, hA, al⟩ := hW
        rw [hx.len, List.take_length] at hA
        walk_at "rd"
        exact q l H' acc e nl hl hA
end
end K23

namespace K23
open PySem PySem.Spec PyProof.Rows L2 Dk Tl
/-- one step of a reading -/
local macro_rules | `(tactic| walk_at "rd1") => `(tactic| first
  | ((with_reducible refine r_var (v := ?rv) ?rh ?_); (case rh => rfl))
  | with_reducible refine r_c ?_
  | with_reducible refine r_seq ?_
  | with_reducible refine r_asg ?_
  | with_reducible refine r_par ?_
  | with_reducible refine r_gname ?_
  | with_reducible refine r_op ?_
  | with_reducible refine r_forLo ?_
  | with_reducible refine r_forTo ?_
  | with_reducible refine r_forSo ?_
  | with_reducible refine r_forRo ?_
  | with_reducible refine r_forRvo ?_
  | with_reducible refine r_forZo ?_
  | with_reducible refine r_revS ?_
  | with_reducible refine r_lcRo ?_
  | with_reducible refine r_lcLo ?_
  | with_reducible refine r_yes ?_
  | with_reducible refine r_callK0 ?_
  | with_reducible refine r_break ?_
  | with_reducible refine r_forR2o ?_
  | with_reducible refine r_forEo ?_
  | with_reducible refine r_forESo ?_
  | with_reducible refine r_xfo ?_
  | with_reducible refine r_noP ?_
  | with_reducible refine r_part ?_
  | with_reducible refine r_pI ?_
  | with_reducible refine r_gcons ?_
  | with_reducible refine r_gnil ?_
  | with_reducible refine r_mkO ?_
  | with_reducible refine r_un ?_
  | with_reducible refine r_addI ?_
  | with_reducible refine r_I0 ?_
  | with_reducible refine r_U ?_
  | with_reducible refine r_cons ?_
  | with_reducible refine r_nil ?_
  | with_reducible refine r_CB ?_
  | with_reducible refine r_call ?_
  | with_reducible refine r_callS ?_
  | with_reducible refine r_int ?_
  | with_reducible refine r_max ?_
  | with_reducible refine r_min ?_
  | with_reducible refine r_test ?_
  | with_reducible refine r_B ?_
  | with_reducible refine r_blv ?_
  | with_reducible refine r_and ?_
  | with_reducible refine r_or ?_
  | with_reducible refine r_not ?_
  | with_reducible refine r_andV ?_
  | with_reducible refine r_orV ?_
  | with_reducible refine r_notV ?_
  | with_reducible refine r_ifE ?_
  | with_reducible refine r_ifS ?_
  | with_reducible refine r_ret ?_
  | with_reducible refine r_retN ?_
  | with_reducible refine r_drop ?_
  | with_reducible refine r_next ?_
  | with_reducible refine r_sl ?_
  | with_reducible refine r_gsub ?_
  | with_reducible refine r_bm ?_
  | with_reducible refine r_tup ?_
  | with_reducible refine r_lst ?_
  | with_reducible refine r_isN ?_
  | with_reducible refine r_notN ?_
  | with_reducible refine r_chain ?_
  | with_reducible refine r_lcEio ?_
  | with_reducible refine r_forEi ?_
  | with_reducible refine r_lcTo ?_
  | with_reducible refine r_m1 ?_
  | with_reducible refine r_dget ?_
  | with_reducible refine r_din ?_
  | with_reducible refine r_dnotin ?_
  | with_reducible refine r_starC ?_
  | with_reducible refine r_callKS ?_
  | with_reducible refine r_itt ?_
  | with_reducible refine r_iff ?_
  | with_reducible refine r_ittN ?_
  | with_reducible refine r_iffN ?_
  | ((with_reducible refine r_ittD ?rh ?_); (case rh => rfl))
  | ((with_reducible refine r_iffD ?rh ?_); (case rh => rfl))
  | ((with_reducible refine r_modP ?rh ?_); (case rh => decide))
  | ((with_reducible refine r_eq ?rh ?_); (case rh => rfl))
  | ((with_reducible refine r_eqP ?rh ?_); (case rh => rfl))
  | ((with_reducible refine r_ne ?rh ?_); (case rh => rfl)))
local macro_rules | `(tactic| walk_at "rd") => `(tactic| repeat walk_at "rd1")
local macro_rules | `(tactic| walk_at "isi") => `(tactic| first | refine r_isi (b := true) (by assumption) (by decide +kernel) ?_ | refine r_isi (b := false) (by assumption) (by decide +kernel) ?_)
local macro_rules | `(tactic| walk_at "rs1") => `(tactic| first
  | with_reducible refine r_seq ?_
  | with_reducible refine r_asg ?_
  | with_reducible refine r_gname ?_
  | with_reducible refine r_ret ?_)
local macro_rules | `(tactic| walk_at "rs") => `(tactic| repeat walk_at "rs1")

open Wd
theorem cutV_fr {l : List V} {k : Nat} : cutV l (some (k : Int)) none = l.drop k := by unfold cutV; exact cut_from
section
variable {P : Program} {w : World} {K : PySem.W.Frag} {mg : Str → Option Value} {base : Heap}
def spLLaid (K : PySem.W.Frag) : Sp := fun vs H Q _ => ∃ (b c : V) (W : List Bi) (ch : List Int), vs = [b, c] ∧ WdV K H b W ∧ Gw W ∧ TupV K NumV H c ch ∧ ch.length ≤ 100 ∧
  ∀ p H' xs, Ex H H' → H p = none → H' p = some (.lst xs) → SgL K H' xs (laid W ch W.length) → Q (.ref p) H'
set_option maxHeartbeats 16000000 in
theorem ok_law_laid (T : Txt K mg) : FnOk P w K mg base CX0 1 T.a_law_laid T.d_law_laid ["_law_world", "_law_choices_here"] (spLLaid K) := by
  refine T.F_law_laid.ok sc_law_laid (fun vs H Q E h => ?_) (fun cdv A outer s H vs Q E hr h => ?_)
  · obtain ⟨b, c, W, ch, rfl, _⟩ := h
    rfl
  · obtain ⟨b, c, W, ch, rfl, wd, gw, hc, chl, q⟩ := h
    refine ⟨_, (pss_cons (ps_set (i := 2) sc_law_laid.nd rfl (Or.inl rfl) (pe_lst (pa_cons (pe_tup (pa_cons pe_int (pa_cons pe_int pa_nil))) (pa_cons (pe_tup (pa_cons pe_int (pa_cons pe_int pa_nil))) pa_nil))))
        (pss_cons (ps_for PassesOwn.never rfl (pi_range2 (by rfl) T.n_range (pa_cons pe_int (pa_cons (pe_callB call_lenU (by rfl) T.n_len (by decide +kernel) (pa_cons (pv 0) pa_nil)) pa_nil))) (pg_name (i := 3) sc_law_laid.nd rfl (Or.inr rfl)) (pss_cons (ps_set (i := 4) sc_law_laid.nd rfl (Or.inl rfl) (pe_op op_addU (pe_bm PySem.F.plainAttrs_list PySem.F.slot_list_index PySem.F.type_list_index (mt_indexD hr.units65) (pv 2) (pa_cons (pe_ix ix_seq (pe_ix ix_seq (pv 0) (pv 3) (fun _ _ => rfl)) pe_int (fun _ _ => rfl)) pa_nil)) pe_int))
        (pss_cons (ps_set (i := 5) sc_law_laid.nd rfl (Or.inl rfl) (pe_op op_addU (pe_op op_sub (pe_bm PySem.F.plainAttrs_list PySem.F.slot_list_index PySem.F.type_list_index (mt_indexD hr.units65) (pv 2) (pa_cons (pe_ix ix_seq (pe_ix ix_seq (pv 0) (pv 3) (fun _ _ => rfl)) pe_int (fun _ _ => rfl)) pa_nil)) (pv 4)) pe_int))
        (pss_cons (ps_set (i := 6) sc_law_laid.nd rfl (Or.inl rfl) (pe_op op_addU (pv 4) (pe_op op_modP (pe_callTy call_intU (by rfl) T.n_int (by decide +kernel) (pa_cons (pe_ix ix_seq (pe_op op_addU (pv 1) (pe_callTy call_tupU (by rfl) T.n_tuple (by decide +kernel) (pa_cons (pe_lc (own := [("_law_k", 8)]) (g := gName 8) rfl sc_law_laid.nd (pi_tup (pv 0)) (blkOk_by (N := N_law_laid) (sc := defScope s_law_laid) (by decide +kernel)) (fun _ _ _ _ _ => pg_name (i := 8) sc_law_laid.nd rfl (Or.inl rfl)) (fun _ _ _ _ _ => pts_nil) (fun _ _ _ _ _ => pe_int)) pa_nil))) (pe_op op_sub (pv 3) pe_int) (fun _ _ => rfl)) pa_nil)) (pv 5))))
        (pss_one (ps_set (i := 2) sc_law_laid.nd rfl (Or.inl rfl) (pe_op op_addU (pe_op op_addU (pe_slice sl_U (pv 2) po_none (po_some (pv 6))) (pe_lc (own := [("_law_i", 7)]) (g := gName 7) rfl sc_law_laid.nd (pi_range1 (by rfl) T.n_range (pa_cons (pe_callB call_lenU (by rfl) T.n_len (by decide +kernel) (pa_cons (pe_ix ix_seq (pe_ix ix_seq (pv 0) (pv 3) (fun _ _ => rfl)) pe_int (fun _ _ => rfl)) pa_nil)) pa_nil)) (blkOk_by (N := N_law_laid) (sc := defScope s_law_laid) (by decide +kernel)) (fun _ _ _ _ _ => pg_name (i := 7) sc_law_laid.nd rfl (Or.inl rfl)) (fun _ _ _ _ _ => pts_nil) (fun _ _ _ _ _ => (pe_tup (pa_cons (pv 3) (pa_cons (pv 7) pa_nil)))))) (pe_slice sl_U (pv 2) (po_some (pv 6)) po_none))))))))
        (pss_one (ps_ret (pv 2))))), ?_⟩
    have wv := gw.wv
    have wl := gw.small
    have w0 := wv.n0
    walk_at "rd"
    refine r_small nsz fun p1 n1 => ?_
    obtain ⟨H1, k1, e1, s1⟩ := nS K (a := 0) (b := 0) (i := 0) (j := 0) n1 rfl rfl
    rw [← k1]
    walk_at "rd"
    refine r_small nsz fun p2 n2 => ?_
    obtain ⟨H2, k2, e2, s2⟩ := nS K (a := 0) (b := 1) (i := 0) (j := 1) n2 rfl rfl
    rw [← k2]
    walk_at "rd"
    refine r_small nsz fun l nl => ?_
    obtain ⟨H3, k3, e3, h3⟩ := nL (.lst [.ref p1, .ref p2]) nl
    rw [← k3]
    have e03 := (e1.trans e2).trans e3
    have nl0 : H l = none := (e1.trans e2).free nl
    walk_at "rd"
    refine r_lenTV (imm (R := WdV K) (.ex e03) wd) ?_
    walk_at "rd"
    refine l_R1n (by omega) (by omega) (fun i σ H' => ∃ p xs y3 y4 y5 y6 y7 y8, σ = [some b, some c, some (.ref p), y3, y4, y5, y6, y7, y8] ∧ Ex H H' ∧ H p = none ∧ H' p = some (.lst xs) ∧ SgL K H' xs (laid W ch i)) ⟨l, _, none, none, none, none, none, none, rfl, e03, nl0, h3, .cons (imm (.ex (e2.trans e3)) s1) (.cons (imm (.ex e3) s2) .nil)⟩ (fun n σ H' n1 n2 hW => ?_) (fun σ H' hW => ?_)
    · obtain ⟨p, xs, y3, y4, y5, y6, y7, y8, rfl, e', np, hp, hR⟩ := hW
      have kp := laid_kp wv (ch := ch) n (by omega) (by omega)
      have rl := row_lens gw kp (by omega)
      have xl := hR.len
      obtain ⟨lr1, lr2, ml, mr⟩ := kp.lr wv (by omega) n2
      obtain ⟨bi, hb⟩ : ∃ bi, W[n]? = some bi := ⟨_, List.getElem?_eq_getElem n2⟩
      have wd' := imm (R := WdV K) (.ex e') wd
      have tl12 := gw.tl bi (List.mem_of_getElem? hb)
      walk_at "rd"
      refine r_tyL (sqL hp) ?_
      walk_at "rd"
      refine r_bi wd' hb fun ub hub => ?_
      walk_at "rd"
      refine r_biL hub fun vl sl => ?_
      rw [← lf_at hb] at sl
      walk_at "rd"
      refine r_indexSg (sqL hp) hR sl (idx_at ml) (idx_first (row := laid W ch n)) ?_
      walk_at "rd"
      refine r_tyL (sqL hp) ?_
      walk_at "rd"
      refine r_bi wd' hb fun ub2 hub2 => ?_
      walk_at "rd"
      refine r_biR hub2 fun vr sr => ?_
      rw [← rf_at hb] at sr
      walk_at "rd"
      refine r_indexSg (sqL hp) hR sr (idx_at mr) (idx_first (row := laid W ch n)) ?_
      obtain ⟨A, hA⟩ : ∃ A, A = (laid W ch n).idxOf (lf W n) := ⟨_, rfl⟩
      obtain ⟨B, hB⟩ : ∃ B, B = (laid W ch n).idxOf (rf W n) := ⟨_, rfl⟩
      rw [← hA, ← hB] at lr1 ⊢
      rw [← hB] at lr2
      walk_at "rd"
      obtain ⟨pw, wxs, rfl, hpw, hwx⟩ := id wd'
      refine l_lcT hpw.sq (fun D i H2 => ∃ acc, Ex H' H2 ∧ H2 D = some (.lst acc) ∧ P2 (NumV H2) acc (List.replicate i (0 : Int))) (fun D hD => ⟨[], Same.new (Same.refl H') hD, upd_same, .nil⟩) (fun D i H2 hW => ?_) (fun D i z H2 hD hi hW => ?_) (fun D H2 hD hW => ?_)
      · obtain ⟨_, e, _⟩ := hW
        exact (hpw.up e).sq
      · obtain ⟨acc, e, ha, hP⟩ := hW
        have al := hP.len
        rw [List.length_replicate] at al
        have il := (List.getElem?_eq_some_iff.mp hi).1
        rw [hwx.len] at il
        walk_at "rd"
        refine ⟨rfl, ?_⟩
        walk_at "rd"
        refine ⟨acc, ha, Nat.lt_of_le_of_lt (show acc.length ≤ 1000 by omega) (by decide), acc ++ [.int 0], Same.mut e hD, upd_same, ?_⟩
        rw [List.replicate_succ']
        exact (hP.imp fun _ _ z => z).snoc rfl
      · obtain ⟨acc, e2', ha, hP⟩ := hW
        rw [hwx.len] at hP
        walk_at "rd"
        refine r_tupLV ha hP fun pz H4 nz e4 hz => ?_
        walk_at "rd"
        refine r_catTV (imm (R := TupV K NumV) (.ex ((e'.trans e2').trans e4)) hc) hz (by rw [List.length_replicate]; omega) fun wz H5 e5 h5 => ?_
        have hch : (ch ++ List.replicate W.length (0 : Int))[n - 1]? = some (chc ch n) := by
          unfold chc
          by_cases g : n - 1 < ch.length
          · rw [List.getElem?_append_left g, List.getElem?_eq_getElem g]; rfl
          · rw [List.getElem?_append_right (by omega), List.getElem?_eq_none (l := ch) (by omega), List.getElem?_replicate, if_pos (by omega)]; rfl
        walk_at "rd"
        rw [show ((n : Nat) : Int) - 1 = ((n - 1 : Nat) : Int) by omega]
        refine r_ixTV h5 hch fun uz hu => ?_
        rw [hu]
        walk_at "rd"
        refine r_modP (by omega) ?_
        have m1 := Int.emod_nonneg (chc ch n) (b := ((B : Nat) : Int) - (((A : Nat) : Int) + 1) + 1) (by omega)
        have m2 := Int.emod_lt_of_pos (chc ch n) (b := ((B : Nat) : Int) - (((A : Nat) : Int) + 1) + 1) (by omega)
        obtain ⟨mm, hm⟩ : ∃ mm : Nat, (mm : Int) = chc ch n % (((B : Nat) : Int) - (((A : Nat) : Int) + 1) + 1) := ⟨_, Int.toNat_of_nonneg m1⟩
        rw [← hm] at m1 m2 ⊢
        have e15 := (e2'.trans e4).trans e5
        have hp5 := e15 _ _ hp
        have hR5 := p2_imm (R := SgV K) (.ex e15) hR
        refine r_addI ?_
        rw [show ((A : Nat) : Int) + 1 + ((mm : Nat) : Int) = ((A + 1 + mm : Nat) : Int) by omega]
        walk_at "rd"
        refine r_slL (sqL hp5) fun l6 n6 => ?_
        rw [cutV_to]
        obtain ⟨H6, k6, e6, h6⟩ := nL (.lst (xs.take (A + 1 + mm))) n6
        rw [← k6]
        have wd6 := imm (R := WdV K) (.ex (e15.trans e6)) wd'
        walk_at "rd"
        refine r_bi wd6 hb fun ub3 hub3 => ?_
        walk_at "rd"
        refine r_biT hub3 ?_
        walk_at "rd"
        refine r_lenS (by rw [sizeLine_eq]; omega) ?_
        walk_at "rd"
        refine l_lcR (by omega) (by omega) (fun D i H7 => ∃ acc, Ex H6 H7 ∧ H7 D = some (.lst acc) ∧ SgL K H7 acc ((List.range i).map fun k => (n, k))) (fun D hD => ⟨[], Same.new (Same.refl H6) hD, upd_same, .nil⟩) (fun D i H7 hD hi hW => ?_) (fun D7 H7 hD7 hW => ?_)
        · obtain ⟨acc, e3, ha, hP⟩ := hW
          have al := hP.len
          rw [List.length_map, List.length_range] at al
          walk_at "rd"
          refine ⟨rfl, ?_⟩
          walk_at "rd"
          refine r_small nsz fun p4 n4 => ?_
          obtain ⟨H8, k8, e8, s8⟩ := nS K (i := n) (j := i) n4 rfl rfl
          rw [← k8]
          have ha4 := e8 _ _ ha
          have tp := Tk.put (o := .lst (acc ++ [.ref p4])) ha4
          refine ⟨acc, ha4, Nat.lt_of_le_of_lt (show acc.length ≤ 1000 by omega) (by decide), acc ++ [.ref p4], Same.mut (e3.trans e8) hD, upd_same, ?_⟩
          rw [List.range_succ, List.map_append, List.map_singleton]
          exact (p2_imm ((Tk.ex e8).trans tp) hP).snoc (imm tp s8)
        · obtain ⟨acc, e7, ha, hP⟩ := hW
          have al := hP.len
          rw [List.length_map, List.length_range, Int.toNat_natCast] at al
          rw [Int.toNat_natCast] at hP
          have e57 := e6.trans e7
          have h67 := e7 _ _ h6
          walk_at "rd"
          refine r_addL h67 ha (by rw [List.length_take, sizeLine_eq]; omega) fun l8 n8 => ?_
          obtain ⟨H8, k8, e8, h8⟩ := nL (.lst (xs.take (A + 1 + mm) ++ acc)) n8
          rw [← k8]
          have e58 := e57.trans e8
          walk_at "rd"
          refine r_slL (sqL (e58 _ _ hp5)) fun l9 n9 => ?_
          rw [cutV_fr]
          obtain ⟨H9, k9, e9, h9⟩ := nL (.lst (xs.drop (A + 1 + mm))) n9
          rw [← k9]
          walk_at "rd"
          refine r_addL (e9 _ _ h8) h9 (by rw [List.length_append, List.length_take, List.length_drop, sizeLine_eq]; omega) fun l10 n10 => ?_
          obtain ⟨H10, k10, e10, h10⟩ := nL (.lst (xs.take (A + 1 + mm) ++ acc ++ xs.drop (A + 1 + mm))) n10
          rw [← k10]
          have e510 := (e58.trans e9).trans e10
          walk_at "rd"
          refine ⟨l10, _, _, _, _, _, _, _, rfl, (e'.trans e15).trans e510, ((e'.trans e15).trans (e58.trans e9)).free n10, h10, ?_⟩
          rw [laid_succ (by omega), ← hA, ← hB]
          have et : A + 1 + (chc ch n % (((B - (A + 1) : Nat) : Int) + 1)).toNat = A + 1 + mm := by
            rw [show (((B - (A + 1) : Nat) : Int) + 1) = ((B : Nat) : Int) - (((A : Nat) : Int) + 1) + 1 by omega, ← hm, Int.toNat_natCast]
          rw [et]
          unfold Wd.putIn Tl.rowOf
          have hP' := p2_imm (R := SgV K) (.ex ((e8.trans e9).trans e10)) hP
          have hR' := p2_imm (R := SgV K) (.ex e510) hR5
          rw [← sz_at (by omega) hb] at hP'
          exact ((hR'.take _).app hP').app (hR'.drop _)
    · obtain ⟨p, xs, y3, y4, y5, y6, y7, y8, rfl, e', np, hp, hR⟩ := hW
      walk_at "rd"
      exact q p H' xs e' np hp hR
end
end K23

namespace K23
open PySem PySem.Spec PyProof.Rows L2 Dk Tl
/-- one step of a reading -/
local macro_rules | `(tactic| walk_at "rd1") => `(tactic| first
  | ((with_reducible refine r_var (v := ?rv) ?rh ?_); (case rh => rfl))
  | with_reducible refine r_c ?_
  | with_reducible refine r_seq ?_
  | with_reducible refine r_asg ?_
  | with_reducible refine r_par ?_
  | with_reducible refine r_gname ?_
  | with_reducible refine r_op ?_
  | with_reducible refine r_forLo ?_
  | with_reducible refine r_forTo ?_
  | with_reducible refine r_forSo ?_
  | with_reducible refine r_forRo ?_
  | with_reducible refine r_forRvo ?_
  | with_reducible refine r_forZo ?_
  | with_reducible refine r_revS ?_
  | with_reducible refine r_lcRo ?_
  | with_reducible refine r_lcLo ?_
  | with_reducible refine r_yes ?_
  | with_reducible refine r_callK0 ?_
  | with_reducible refine r_break ?_
  | with_reducible refine r_forR2o ?_
  | with_reducible refine r_forEo ?_
  | with_reducible refine r_forESo ?_
  | with_reducible refine r_xfo ?_
  | with_reducible refine r_noP ?_
  | with_reducible refine r_part ?_
  | with_reducible refine r_pI ?_
  | with_reducible refine r_gcons ?_
  | with_reducible refine r_gnil ?_
  | with_reducible refine r_mkO ?_
  | with_reducible refine r_un ?_
  | with_reducible refine r_addI ?_
  | with_reducible refine r_I0 ?_
  | with_reducible refine r_U ?_
  | with_reducible refine r_cons ?_
  | with_reducible refine r_nil ?_
  | with_reducible refine r_CB ?_
  | with_reducible refine r_call ?_
  | with_reducible refine r_callS ?_
  | with_reducible refine r_int ?_
  | with_reducible refine r_max ?_
  | with_reducible refine r_min ?_
  | with_reducible refine r_test ?_
  | with_reducible refine r_B ?_
  | with_reducible refine r_blv ?_
  | with_reducible refine r_and ?_
  | with_reducible refine r_or ?_
  | with_reducible refine r_not ?_
  | with_reducible refine r_andV ?_
  | with_reducible refine r_orV ?_
  | with_reducible refine r_notV ?_
  | with_reducible refine r_ifE ?_
  | with_reducible refine r_ifS ?_
  | with_reducible refine r_ret ?_
  | with_reducible refine r_retN ?_
  | with_reducible refine r_drop ?_
  | with_reducible refine r_next ?_
  | with_reducible refine r_sl ?_
  | with_reducible refine r_gsub ?_
  | with_reducible refine r_bm ?_
  | with_reducible refine r_tup ?_
  | with_reducible refine r_lst ?_
  | with_reducible refine r_isN ?_
  | with_reducible refine r_notN ?_
  | with_reducible refine r_chain ?_
  | with_reducible refine r_lcEio ?_
  | with_reducible refine r_forEi ?_
  | with_reducible refine r_lcTo ?_
  | with_reducible refine r_m1 ?_
  | with_reducible refine r_dget ?_
  | with_reducible refine r_din ?_
  | with_reducible refine r_dnotin ?_
  | with_reducible refine r_starC ?_
  | with_reducible refine r_callKS ?_
  | with_reducible refine r_itt ?_
  | with_reducible refine r_iff ?_
  | with_reducible refine r_ittN ?_
  | with_reducible refine r_iffN ?_
  | ((with_reducible refine r_ittD ?rh ?_); (case rh => rfl))
  | ((with_reducible refine r_iffD ?rh ?_); (case rh => rfl))
  | ((with_reducible refine r_modP ?rh ?_); (case rh => decide))
  | ((with_reducible refine r_eq ?rh ?_); (case rh => rfl))
  | ((with_reducible refine r_eqP ?rh ?_); (case rh => rfl))
  | ((with_reducible refine r_ne ?rh ?_); (case rh => rfl)))
local macro_rules | `(tactic| walk_at "rd") => `(tactic| repeat walk_at "rd1")
local macro_rules | `(tactic| walk_at "isi") => `(tactic| first | refine r_isi (b := true) (by assumption) (by decide +kernel) ?_ | refine r_isi (b := false) (by assumption) (by decide +kernel) ?_)
local macro_rules | `(tactic| walk_at "rs1") => `(tactic| first
  | with_reducible refine r_seq ?_
  | with_reducible refine r_asg ?_
  | with_reducible refine r_gname ?_
  | with_reducible refine r_ret ?_)
local macro_rules | `(tactic| walk_at "rs") => `(tactic| repeat walk_at "rs1")

open Wd
def numf (k d : Nat) : Nat := if k = 1 then 42 * d - 3 else if k = 2 then 300 - d else d
theorem numf_inj {k d e : Nat} (hd : 1 ≤ d) (hd2 : d ≤ 7) (he : 1 ≤ e) (he2 : e ≤ 7) (h : numf k d = numf k e) : d = e := by
  unfold numf at h
  split at h
  · omega
  · split at h <;> omega
theorem numf_lt {k d : Nat} (hd : 1 ≤ d) (hd2 : d ≤ 7) : 1 ≤ numf k d ∧ numf k d < 300 := by
  unfold numf
  split
  · omega
  · split <;> omega
section
variable {P : Program} {w : World} {K : PySem.W.Frag} {mg : Str → Option Value} {base : Heap}
def spNum : Sp := fun vs H Q _ => ∃ k d : Nat, vs = [.int (k : Nat), .int (d : Nat)] ∧ 1 ≤ d ∧ d ≤ 7 ∧ Q (.int (numf k d : Nat)) H
theorem ok_law_num (T : Txt K mg) : FnOk P w K mg base CX0 1 T.a_law_num T.d_law_num ["_law_kind", "_law_d"] spNum := by
  refine T.F_law_num.ok sc_law_num (fun vs H Q E h => ?_) (fun cdv A outer s H vs Q E hr h => ?_)
  · obtain ⟨k, d, rfl, _⟩ := h
    rfl
  · obtain ⟨k, d, rfl, d1, d7, q⟩ := h
    refine ⟨_, (pss_cons (ps_if (pt_cmpR (op_eqU hr.units) (pv 0) pe_int (nomark _)) (pss_one (ps_ret (pe_op op_sub (pe_op op_mulWW pe_int (pv 1)) pe_int))) pss_nil)
        (pss_cons (ps_if (pt_cmpR (op_eqU hr.units) (pv 0) pe_int (nomark _)) (pss_one (ps_ret (pe_op op_sub pe_int (pv 1)))) pss_nil)
        (pss_one (ps_ret (pv 1))))), ?_⟩
    unfold numf at q
    walk_at "rd"
    by_cases k1 : k = 1
    · rw [decide_eq_true (show V.int ((k : Nat) : Int) = V.int 1 by rw [k1]; rfl)]
      rw [if_pos k1] at q
      walk_at "rd"
      refine r_mulW (wide_mul (a := 6) (b := 3) (by decide) (by show _ < 8; omega) (by decide) (by decide) (by decide)) ?_
      walk_at "rd"
      rw [show (42 : Int) * ((d : Nat) : Int) - 3 = ((42 * d - 3 : Nat) : Int) by omega]
      exact q
    · rw [decide_eq_false (show ¬ V.int ((k : Nat) : Int) = V.int 1 from fun g => k1 (by have := V.int.inj g; omega))]
      rw [if_neg k1] at q
      walk_at "rd"
      by_cases k2 : k = 2
      · rw [decide_eq_true (show V.int ((k : Nat) : Int) = V.int 2 by rw [k2]; rfl)]
        rw [if_pos k2] at q
        walk_at "rd"
        rw [show (300 : Int) - ((d : Nat) : Int) = ((300 - d : Nat) : Int) by omega]
        exact q
      · rw [decide_eq_false (show ¬ V.int ((k : Nat) : Int) = V.int 2 from fun g => k2 (by have := V.int.inj g; omega))]
        rw [if_neg k2] at q
        walk_at "rd"
        exact q
theorem r_lenRw {H : Hp} {Q : VK} {v : V} {row : List Sg} (h : RwV K H v row) (q : Q (.int (row.length : Nat)) H) : rLenU K [v] H Q := by
  rcases h with h | ⟨p, xs, rfl, hp, hx⟩
  · exact r_lenTV h q
  · refine r_lenL (sqL hp) ?_
    rw [hx.len]
    exact q
theorem r_ixRw {H : Hp} {Q : VK} {v : V} {row : List Sg} {i : Nat} {x : Sg} (h : RwV K H v row) (hx : row[i]? = some x) (q : ∀ u, SgV K H u x → Q u H) : rIx K v (.int (i : Nat)) H Q := by
  rcases h with h | ⟨p, xs, rfl, hp, hP⟩
  · exact r_ixTV h hx q
  · exact r_ixLV hp hP hx q
theorem RwV.up {H H' : Hp} {v : V} {row : List Sg} (e : Ex H H') (h : RwV K H v row) : RwV K H' v row := by
  rcases h with h | ⟨p, xs, rfl, hp, hP⟩
  · exact .inl (imm (R := TupV K (SgV K)) (.ex e) h)
  · exact .inr ⟨p, xs, rfl, e _ _ hp, p2_imm (.ex e) hP⟩
theorem ps_ltW {L R : Nat → Sg} {sz : Nat → Nat} {n : Nat} {U : List Nat} (tl : Tells L R sz n U) {x : Sg} (ok : Ok sz n x) : ps sz x < U.length := by
  have h := (List.getElem?_eq_some_iff.mp (marks_at ok)).1
  rw [marks_len] at h
  rw [tl.1]
  exact h
/-- births, their marks, their table -/
structure Mt (K : PySem.W.Frag) (H : Hp) (mk tb : V) (W : List Bi) (U : List Nat) : Prop where
  ms : ∃ p xs, mk = .ref p ∧ H p = some (.lst xs) ∧ SgL K H xs (marks (Wd.sz W) W.length)
  ts : ∃ p, tb = .ref p ∧ H p = some (.lst (tbv U))
  tl : Tells (lf W) (rf W) (Wd.sz W) W.length U
  ul : U.length ≤ 1000
theorem Mt.up {H H' : Hp} {mk tb : V} {W : List Bi} {U : List Nat} (e : Ex H H') (h : Mt K H mk tb W U) : Mt K H' mk tb W U := by
  obtain ⟨⟨p, xs, h1, h2, h3⟩, ⟨p2, h4, h5⟩, h6, h7⟩ := h
  exact ⟨⟨p, xs, h1, e _ _ h2, p2_imm (.ex e) h3⟩, ⟨p2, h4, e _ _ h5⟩, h6, h7⟩
end
end K23

/-! cuts out of lists of signs -/
namespace Wd
open PySem PySem.Spec PyProof.Rows L2 Dk Tl
def runStep (acc : List Tri) (x : Sg) : List Tri := match acc.getLast? with
  | some t => if t.1 = x.1 ∧ t.2.1 + t.2.2 = x.2 then acc.dropLast ++ [(x.1, t.2.1, t.2.2 + 1)] else acc ++ [(x.1, x.2, 1)]
  | none => [(x.1, x.2, 1)]
def runsOf (l : List Sg) : List Tri := l.foldl runStep []
theorem in_one (x y : Sg) : inTri x (y.1, y.2, 1) = decide (x = y) := by
  unfold inTri
  rw [Bool.eq_iff_iff]
  simp only [Bool.and_eq_true, decide_eq_true_iff]
  constructor
  · rintro ⟨h1, h2, h3⟩
    exact Prod.ext h1.symm (by omega)
  · rintro rfl
    exact ⟨rfl, Nat.le_refl _, by omega⟩
theorem among_app (a b : List Tri) (x : Sg) : among (a ++ b) x = (among a x || among b x) := List.any_append
theorem among_one (t : Tri) (x : Sg) : among [t] x = inTri x t := by simp [among]
theorem last_split {α : Type} {l : List α} {t : α} (h : l.getLast? = some t) : l = l.dropLast ++ [t] := by
  rcases List.eq_nil_or_concat l with e | ⟨l0, z, e⟩
  · rw [e] at h; cases h
  · rw [List.concat_eq_append] at e
    rw [e, List.getLast?_append, List.getLast?_singleton] at h
    have : z = t := Option.some.inj h
    rw [e, this]
    simp
theorem among_step (acc : List Tri) (x y : Sg) : among (runStep acc y) x = (among acc x || decide (x = y)) := by
  unfold runStep
  cases h : acc.getLast? with
  | none =>
    have : acc = [] := List.getLast?_eq_none_iff.mp h
    rw [this]
    show among [(y.1, y.2, 1)] x = _
    rw [among_one, in_one]
    simp [among]
  | some t =>
    show among (if t.1 = y.1 ∧ t.2.1 + t.2.2 = y.2 then acc.dropLast ++ [(y.1, t.2.1, t.2.2 + 1)] else acc ++ [(y.1, y.2, 1)]) x = _
    by_cases c : t.1 = y.1 ∧ t.2.1 + t.2.2 = y.2
    · rw [if_pos c]
      conv => rhs; rw [last_split h]
      rw [among_app, among_app, among_one, among_one, Bool.or_assoc]
      congr 1
      unfold inTri
      rw [Bool.eq_iff_iff]
      simp only [Bool.and_eq_true, Bool.or_eq_true, decide_eq_true_iff]
      obtain ⟨c1, c2⟩ := c
      constructor
      · rintro ⟨h1, h2, h3⟩
        by_cases g : x.2 < t.2.1 + t.2.2
        · exact .inl ⟨c1.trans h1, h2, g⟩
        · exact .inr (Prod.ext h1.symm (by omega))
      · rintro (⟨h1, h2, h3⟩ | rfl)
        · exact ⟨c1.symm.trans h1, h2, by omega⟩
        · exact ⟨rfl, by omega, by omega⟩
    · rw [if_neg c, among_app, among_one, in_one]
theorem among_fold (l : List Sg) (x : Sg) : ∀ acc, among (l.foldl runStep acc) x = (among acc x || decide (x ∈ l)) := by
  induction l with
  | nil => intro acc; simp
  | cons y l ih =>
    intro acc
    rw [List.foldl_cons, ih, among_step, Bool.or_assoc]
    congr 1
    rw [Bool.eq_iff_iff]
    simp
theorem among_runs (l : List Sg) (x : Sg) : among (runsOf l) x = decide (x ∈ l) := by
  unfold runsOf
  rw [among_fold]
  simp [among]
/-- what is small stays small -/
theorem runs_small (l : List Sg) (m : Nat) (h : ∀ x ∈ l, x.2 ≤ m) : ∀ acc : List Tri, (∀ t ∈ acc, t.2.1 ≤ m) → (∀ t ∈ l.foldl runStep acc, t.2.1 ≤ m) := by
  induction l with
  | nil => intro acc ha; exact ha
  | cons y l ih =>
    intro acc ha
    rw [List.foldl_cons]
    refine ih (fun x hx => h x (List.mem_cons_of_mem _ hx)) _ fun t ht => ?_
    have hy := h y (List.mem_cons_self ..)
    unfold runStep at ht
    cases g : acc.getLast? with
    | none =>
      rw [g] at ht
      rw [List.mem_singleton.mp ht]
      exact hy
    | some t0 =>
      rw [g] at ht
      have m0 : t0 ∈ acc := List.mem_of_getLast? g
      have ht : t ∈ (if t0.1 = y.1 ∧ t0.2.1 + t0.2.2 = y.2 then acc.dropLast ++ [(y.1, t0.2.1, t0.2.2 + 1)] else acc ++ [(y.1, y.2, 1)]) := ht
      by_cases c : t0.1 = y.1 ∧ t0.2.1 + t0.2.2 = y.2
      · rw [if_pos c] at ht
        rcases List.mem_append.mp ht with ht | ht
        · exact ha t (List.dropLast_subset _ ht)
        · rw [List.mem_singleton.mp ht]
          exact ha t0 m0
      · rw [if_neg c] at ht
        rcases List.mem_append.mp ht with ht | ht
        · exact ha t ht
        · rw [List.mem_singleton.mp ht]
          exact hy
theorem runs_len (l : List Sg) : ∀ acc : List Tri, (l.foldl runStep acc).length ≤ acc.length + l.length ∧ ∀ k, (∀ t ∈ acc, t.2.2 ≤ k) → 1 ≤ k → ∀ t ∈ l.foldl runStep acc, t.2.2 ≤ k + l.length := by
  induction l with
  | nil => intro acc; exact ⟨by simp, fun k h _ t ht => h t ht⟩
  | cons y l ih =>
    intro acc
    rw [List.foldl_cons, List.length_cons]
    obtain ⟨h1, h2⟩ := ih (runStep acc y)
    have sl : (runStep acc y).length ≤ acc.length + 1 := by
      unfold runStep
      cases g : acc.getLast? with
      | none => show [_].length ≤ _; simp
      | some t0 =>
        show (if t0.1 = y.1 ∧ t0.2.1 + t0.2.2 = y.2 then acc.dropLast ++ [(y.1, t0.2.1, t0.2.2 + 1)] else acc ++ [(y.1, y.2, 1)]).length ≤ _
        split <;> simp
    refine ⟨by omega, fun k hk k1 t ht => ?_⟩
    have := h2 (k + 1) (fun t ht => ?_) (by omega) t ht
    · omega
    · unfold runStep at ht
      cases g : acc.getLast? with
      | none =>
        rw [g] at ht
        rw [List.mem_singleton.mp ht]
        show 1 ≤ k + 1
        omega
      | some t0 =>
        rw [g] at ht
        have m0 : t0 ∈ acc := List.mem_of_getLast? g
        have ht : t ∈ (if t0.1 = y.1 ∧ t0.2.1 + t0.2.2 = y.2 then acc.dropLast ++ [(y.1, t0.2.1, t0.2.2 + 1)] else acc ++ [(y.1, y.2, 1)]) := ht
        by_cases c : t0.1 = y.1 ∧ t0.2.1 + t0.2.2 = y.2
        · rw [if_pos c] at ht
          rcases List.mem_append.mp ht with ht | ht
          · have := hk t (List.dropLast_subset _ ht)
            omega
          · rw [List.mem_singleton.mp ht]
            have := hk t0 m0
            show t0.2.2 + 1 ≤ k + 1
            omega
        · rw [if_neg c] at ht
          rcases List.mem_append.mp ht with ht | ht
          · have := hk t ht
            omega
          · rw [List.mem_singleton.mp ht]
            show 1 ≤ k + 1
            omega
/-- cuts of lots -/
def ctsOf (W : List Bi) (lots : List (Nat × List Sg)) : Cts := lots.map fun e => (e.1, runsOf ((marks (sz W) W.length).filter fun x => decide (x ∈ e.2)))
theorem cut_lot {W : List Bi} {lots : List (Nat × List Sg)} {s : Nat} {x : Sg} (ok : OkW W x) : isCut (ctsOf W lots) s x = lots.any fun e => s.testBit e.1 && decide (x ∈ e.2) := by
  unfold isCut ctsOf
  rw [List.any_map]
  congr 1
  funext e
  show (s.testBit e.1 && among (runsOf _) x) = _
  rw [among_runs]
  congr 1
  rw [Bool.eq_iff_iff, decide_eq_true_iff, decide_eq_true_iff, List.mem_filter, decide_eq_true_iff]
  exact ⟨fun h => h.2, fun h => ⟨mem_marks.mpr ok, h⟩⟩
theorem gc_of {W : List Bi} (gw : Gw W) {lots : List (Nat × List Sg)} (nd : (lots.map Prod.fst).Nodup) (few : lots.length ≤ 300) (mk : (marks (sz W) W.length).length ≤ 99) : Gc (ctsOf W lots) where
  nd := by
    unfold ctsOf
    rw [List.map_map]
    exact nd
  few := by unfold ctsOf; rw [List.length_map]; exact few
  len := fun e he => by
    unfold ctsOf at he
    obtain ⟨f, _, rfl⟩ := List.mem_map.mp he
    obtain ⟨h1, h2⟩ := runs_len ((marks (sz W) W.length).filter fun x => decide (x ∈ f.2)) []
    have fl := List.length_filter_le (fun x => decide (x ∈ f.2)) (marks (sz W) W.length)
    refine ⟨?_, fun t ht => ?_⟩
    · show (runsOf _).length ≤ 100
      unfold runsOf
      simp at h1
      omega
    · have := h2 1 (fun t ht => absurd ht List.not_mem_nil) (Nat.le_refl _) t ht
      omega
  far := fun e he t ht => by
    unfold ctsOf at he
    obtain ⟨f, _, rfl⟩ := List.mem_map.mp he
    have := runs_small _ 1000 (fun x hx => ?_) [] (fun t ht => absurd ht List.not_mem_nil) t ht
    · exact this
    · have ok := mem_marks.mp (List.mem_filter.mp hx).1
      have := ok.2
      have := gw.sz12 (c := x.1)
      omega
theorem valV_none {K : PySem.W.Frag} {H : Hp} {kvs : List (Key × V)} {cts : Cts} (h : P2 (fun a b => a.1 = .inl (b.1 : Int) ∧ StV K H a.2 b.2) kvs cts) {m : Nat} (hm : ∀ e ∈ cts, e.1 ≠ m) : valV kvs (.inl (m : Int)) = none := by
  induction h with
  | nil => rfl
  | @cons a b l n r t ih =>
    rw [valV_neg (fun e => ?_)]
    · exact ih fun e he => hm e (List.mem_cons_of_mem _ he)
    · rw [r.1] at e
      have := Sum.inl.inj e
      exact hm b (List.mem_cons_self ..) (by omega)
end Wd

namespace K23
open PySem PySem.Spec PyProof.Rows L2 Dk Tl
/-- one step of a reading -/
local macro_rules | `(tactic| walk_at "rd1") => `(tactic| first
  | ((with_reducible refine r_var (v := ?rv) ?rh ?_); (case rh => rfl))
  | with_reducible refine r_c ?_
  | with_reducible refine r_seq ?_
  | with_reducible refine r_asg ?_
  | with_reducible refine r_par ?_
  | with_reducible refine r_gname ?_
  | with_reducible refine r_op ?_
  | with_reducible refine r_forLo ?_
  | with_reducible refine r_forTo ?_
  | with_reducible refine r_forSo ?_
  | with_reducible refine r_forRo ?_
  | with_reducible refine r_forRvo ?_
  | with_reducible refine r_forZo ?_
  | with_reducible refine r_revS ?_
  | with_reducible refine r_lcRo ?_
  | with_reducible refine r_lcLo ?_
  | with_reducible refine r_yes ?_
  | with_reducible refine r_callK0 ?_
  | with_reducible refine r_break ?_
  | with_reducible refine r_forR2o ?_
  | with_reducible refine r_forEo ?_
  | with_reducible refine r_forESo ?_
  | with_reducible refine r_xfo ?_
  | with_reducible refine r_noP ?_
  | with_reducible refine r_part ?_
  | with_reducible refine r_pI ?_
  | with_reducible refine r_gcons ?_
  | with_reducible refine r_gnil ?_
  | with_reducible refine r_mkO ?_
  | with_reducible refine r_un ?_
  | with_reducible refine r_addI ?_
  | with_reducible refine r_I0 ?_
  | with_reducible refine r_U ?_
  | with_reducible refine r_cons ?_
  | with_reducible refine r_nil ?_
  | with_reducible refine r_CB ?_
  | with_reducible refine r_call ?_
  | with_reducible refine r_callS ?_
  | with_reducible refine r_int ?_
  | with_reducible refine r_max ?_
  | with_reducible refine r_min ?_
  | with_reducible refine r_test ?_
  | with_reducible refine r_B ?_
  | with_reducible refine r_blv ?_
  | with_reducible refine r_and ?_
  | with_reducible refine r_or ?_
  | with_reducible refine r_not ?_
  | with_reducible refine r_andV ?_
  | with_reducible refine r_orV ?_
  | with_reducible refine r_notV ?_
  | with_reducible refine r_ifE ?_
  | with_reducible refine r_ifS ?_
  | with_reducible refine r_ret ?_
  | with_reducible refine r_retN ?_
  | with_reducible refine r_drop ?_
  | with_reducible refine r_next ?_
  | with_reducible refine r_sl ?_
  | with_reducible refine r_gsub ?_
  | with_reducible refine r_bm ?_
  | with_reducible refine r_tup ?_
  | with_reducible refine r_lst ?_
  | with_reducible refine r_isN ?_
  | with_reducible refine r_notN ?_
  | with_reducible refine r_chain ?_
  | with_reducible refine r_lcEio ?_
  | with_reducible refine r_forEi ?_
  | with_reducible refine r_lcTo ?_
  | with_reducible refine r_m1 ?_
  | with_reducible refine r_dget ?_
  | with_reducible refine r_din ?_
  | with_reducible refine r_dnotin ?_
  | with_reducible refine r_starC ?_
  | with_reducible refine r_callKS ?_
  | with_reducible refine r_itt ?_
  | with_reducible refine r_iff ?_
  | with_reducible refine r_ittN ?_
  | with_reducible refine r_iffN ?_
  | ((with_reducible refine r_ittD ?rh ?_); (case rh => rfl))
  | ((with_reducible refine r_iffD ?rh ?_); (case rh => rfl))
  | ((with_reducible refine r_modP ?rh ?_); (case rh => decide))
  | ((with_reducible refine r_eq ?rh ?_); (case rh => rfl))
  | ((with_reducible refine r_eqP ?rh ?_); (case rh => rfl))
  | ((with_reducible refine r_ne ?rh ?_); (case rh => rfl)))
local macro_rules | `(tactic| walk_at "rd") => `(tactic| repeat walk_at "rd1")
local macro_rules | `(tactic| walk_at "isi") => `(tactic| first | refine r_isi (b := true) (by assumption) (by decide +kernel) ?_ | refine r_isi (b := false) (by assumption) (by decide +kernel) ?_)
local macro_rules | `(tactic| walk_at "rs1") => `(tactic| first
  | with_reducible refine r_seq ?_
  | with_reducible refine r_asg ?_
  | with_reducible refine r_gname ?_
  | with_reducible refine r_ret ?_)
local macro_rules | `(tactic| walk_at "rs") => `(tactic| repeat walk_at "rs1")

open Wd
/-! ### numbers of deeds as bits -/
theorem tb_app (a b : List Nat) : tbv (a ++ b) = tbv a ++ tbv b := List.map_append
end K23

namespace K23
open PySem PySem.Spec PyProof.Rows L2 Dk Tl
/-- one step of a reading -/
local macro_rules | `(tactic| walk_at "rd1") => `(tactic| first
  | ((with_reducible refine r_var (v := ?rv) ?rh ?_); (case rh => rfl))
  | with_reducible refine r_c ?_
  | with_reducible refine r_seq ?_
  | with_reducible refine r_asg ?_
  | with_reducible refine r_par ?_
  | with_reducible refine r_gname ?_
  | with_reducible refine r_op ?_
  | with_reducible refine r_forLo ?_
  | with_reducible refine r_forTo ?_
  | with_reducible refine r_forSo ?_
  | with_reducible refine r_forRo ?_
  | with_reducible refine r_forRvo ?_
  | with_reducible refine r_forZo ?_
  | with_reducible refine r_revS ?_
  | with_reducible refine r_lcRo ?_
  | with_reducible refine r_lcLo ?_
  | with_reducible refine r_yes ?_
  | with_reducible refine r_callK0 ?_
  | with_reducible refine r_break ?_
  | with_reducible refine r_forR2o ?_
  | with_reducible refine r_forEo ?_
  | with_reducible refine r_forESo ?_
  | with_reducible refine r_xfo ?_
  | with_reducible refine r_noP ?_
  | with_reducible refine r_part ?_
  | with_reducible refine r_pI ?_
  | with_reducible refine r_gcons ?_
  | with_reducible refine r_gnil ?_
  | with_reducible refine r_mkO ?_
  | with_reducible refine r_un ?_
  | with_reducible refine r_addI ?_
  | with_reducible refine r_I0 ?_
  | with_reducible refine r_U ?_
  | with_reducible refine r_cons ?_
  | with_reducible refine r_nil ?_
  | with_reducible refine r_CB ?_
  | with_reducible refine r_call ?_
  | with_reducible refine r_callS ?_
  | with_reducible refine r_int ?_
  | with_reducible refine r_max ?_
  | with_reducible refine r_min ?_
  | with_reducible refine r_test ?_
  | with_reducible refine r_B ?_
  | with_reducible refine r_blv ?_
  | with_reducible refine r_and ?_
  | with_reducible refine r_or ?_
  | with_reducible refine r_not ?_
  | with_reducible refine r_andV ?_
  | with_reducible refine r_orV ?_
  | with_reducible refine r_notV ?_
  | with_reducible refine r_ifE ?_
  | with_reducible refine r_ifS ?_
  | with_reducible refine r_ret ?_
  | with_reducible refine r_retN ?_
  | with_reducible refine r_drop ?_
  | with_reducible refine r_next ?_
  | with_reducible refine r_sl ?_
  | with_reducible refine r_gsub ?_
  | with_reducible refine r_bm ?_
  | with_reducible refine r_tup ?_
  | with_reducible refine r_lst ?_
  | with_reducible refine r_isN ?_
  | with_reducible refine r_notN ?_
  | with_reducible refine r_chain ?_
  | with_reducible refine r_lcEio ?_
  | with_reducible refine r_forEi ?_
  | with_reducible refine r_lcTo ?_
  | with_reducible refine r_m1 ?_
  | with_reducible refine r_dget ?_
  | with_reducible refine r_din ?_
  | with_reducible refine r_dnotin ?_
  | with_reducible refine r_starC ?_
  | with_reducible refine r_callKS ?_
  | with_reducible refine r_itt ?_
  | with_reducible refine r_iff ?_
  | with_reducible refine r_ittN ?_
  | with_reducible refine r_iffN ?_
  | ((with_reducible refine r_ittD ?rh ?_); (case rh => rfl))
  | ((with_reducible refine r_iffD ?rh ?_); (case rh => rfl))
  | ((with_reducible refine r_modP ?rh ?_); (case rh => decide))
  | ((with_reducible refine r_eq ?rh ?_); (case rh => rfl))
  | ((with_reducible refine r_eqP ?rh ?_); (case rh => rfl))
  | ((with_reducible refine r_ne ?rh ?_); (case rh => rfl)))
local macro_rules | `(tactic| walk_at "rd") => `(tactic| repeat walk_at "rd1")
local macro_rules | `(tactic| walk_at "isi") => `(tactic| first | refine r_isi (b := true) (by assumption) (by decide +kernel) ?_ | refine r_isi (b := false) (by assumption) (by decide +kernel) ?_)
local macro_rules | `(tactic| walk_at "rs1") => `(tactic| first
  | with_reducible refine r_seq ?_
  | with_reducible refine r_asg ?_
  | with_reducible refine r_gname ?_
  | with_reducible refine r_ret ?_)
local macro_rules | `(tactic| walk_at "rs") => `(tactic| repeat walk_at "rs1")

open Wd
section
variable {P : Program} {w : World} {K : PySem.W.Frag} {mg : Str → Option Value} {base : Heap}
theorem sm_int {H : Hp} {i : Int} : Sm K H 6 (.int i) (.int i) := by
  rw [sm_eq]
  exact .inr (.inr (.inl ⟨i, rfl, rfl⟩))
theorem sm_bl {H : Hp} {b : Bool} : Sm K H 6 (.bl b) (.bl b) := by
  rw [sm_eq]
  exact .inr (.inl ⟨b, rfl, rfl⟩)
theorem p2_self {R : V → V → Prop} : ∀ {xs ys : List V} {ns : List Nat} {H : Hp}, (∀ i, R (.int i) (.int i)) → P2 (IntV H) xs ns → P2 (IntV H) ys ns → P2 R xs ys := by
  intro xs ys ns H r h1 h2
  induction h1 generalizing ys with
  | nil => cases h2; exact .nil
  | cons a t ih =>
    cases h2 with
    | cons b t2 =>
      rw [show _ = V.int _ from a, show _ = V.int _ from b]
      exact .cons (r _) (ih t2)
theorem sm_ints {H : Hp} {v u : V} {ns : List Nat} (h1 : TupV K IntV H v ns) (h2 : TupV K IntV H u ns) (hl : ns.length ≤ 1000) : Sm K H 6 v u := by
  obtain ⟨p, xs, rfl, hp, hx⟩ := h1
  obtain ⟨q, ys, rfl, hq, hy⟩ := h2
  rw [sm_eq]
  refine .inr (.inr (.inr (.inr (.inl ⟨p, q, xs, ys, rfl, rfl, hp, hq, by rw [hx.len]; exact hl, p2_self (fun i => ?_) hx hy⟩))))
  rw [sm_eq]
  exact .inr (.inr (.inl ⟨i, rfl, rfl⟩))
theorem ne_blb (a c : Bool) : (!decide (V.bl a = V.bl c)) = (a != c) := by
  cases a <;> cases c <;> rfl
end
end K23

namespace K23
open PySem PySem.Spec PyProof.Rows L2 Dk Tl
/-- one step of a reading -/
local macro_rules | `(tactic| walk_at "rd1") => `(tactic| first
  | ((with_reducible refine r_var (v := ?rv) ?rh ?_); (case rh => rfl))
  | with_reducible refine r_c ?_
  | with_reducible refine r_seq ?_
  | with_reducible refine r_asg ?_
  | with_reducible refine r_par ?_
  | with_reducible refine r_gname ?_
  | with_reducible refine r_op ?_
  | with_reducible refine r_forLo ?_
  | with_reducible refine r_forTo ?_
  | with_reducible refine r_forSo ?_
  | with_reducible refine r_forRo ?_
  | with_reducible refine r_forRvo ?_
  | with_reducible refine r_forZo ?_
  | with_reducible refine r_revS ?_
  | with_reducible refine r_lcRo ?_
  | with_reducible refine r_lcLo ?_
  | with_reducible refine r_yes ?_
  | with_reducible refine r_callK0 ?_
  | with_reducible refine r_break ?_
  | with_reducible refine r_forR2o ?_
  | with_reducible refine r_forEo ?_
  | with_reducible refine r_forESo ?_
  | with_reducible refine r_xfo ?_
  | with_reducible refine r_noP ?_
  | with_reducible refine r_part ?_
  | with_reducible refine r_pI ?_
  | with_reducible refine r_gcons ?_
  | with_reducible refine r_gnil ?_
  | with_reducible refine r_mkO ?_
  | with_reducible refine r_un ?_
  | with_reducible refine r_addI ?_
  | with_reducible refine r_I0 ?_
  | with_reducible refine r_U ?_
  | with_reducible refine r_cons ?_
  | with_reducible refine r_nil ?_
  | with_reducible refine r_CB ?_
  | with_reducible refine r_call ?_
  | with_reducible refine r_callS ?_
  | with_reducible refine r_int ?_
  | with_reducible refine r_max ?_
  | with_reducible refine r_min ?_
  | with_reducible refine r_test ?_
  | with_reducible refine r_B ?_
  | with_reducible refine r_blv ?_
  | with_reducible refine r_and ?_
  | with_reducible refine r_or ?_
  | with_reducible refine r_not ?_
  | with_reducible refine r_andV ?_
  | with_reducible refine r_orV ?_
  | with_reducible refine r_notV ?_
  | with_reducible refine r_ifE ?_
  | with_reducible refine r_ifS ?_
  | with_reducible refine r_ret ?_
  | with_reducible refine r_retN ?_
  | with_reducible refine r_drop ?_
  | with_reducible refine r_next ?_
  | with_reducible refine r_sl ?_
  | with_reducible refine r_gsub ?_
  | with_reducible refine r_bm ?_
  | with_reducible refine r_tup ?_
  | with_reducible refine r_lst ?_
  | with_reducible refine r_isN ?_
  | with_reducible refine r_notN ?_
  | with_reducible refine r_chain ?_
  | with_reducible refine r_lcEio ?_
  | with_reducible refine r_forEi ?_
  | with_reducible refine r_lcTo ?_
  | with_reducible refine r_m1 ?_
  | with_reducible refine r_dget ?_
  | with_reducible refine r_din ?_
  | with_reducible refine r_dnotin ?_
  | with_reducible refine r_starC ?_
  | with_reducible refine r_callKS ?_
  | with_reducible refine r_itt ?_
  | with_reducible refine r_iff ?_
  | with_reducible refine r_ittN ?_
  | with_reducible refine r_iffN ?_
  | ((with_reducible refine r_ittD ?rh ?_); (case rh => rfl))
  | ((with_reducible refine r_iffD ?rh ?_); (case rh => rfl))
  | ((with_reducible refine r_modP ?rh ?_); (case rh => decide))
  | ((with_reducible refine r_eq ?rh ?_); (case rh => rfl))
  | ((with_reducible refine r_eqP ?rh ?_); (case rh => rfl))
  | ((with_reducible refine r_ne ?rh ?_); (case rh => rfl)))
local macro_rules | `(tactic| walk_at "rd") => `(tactic| repeat walk_at "rd1")
local macro_rules | `(tactic| walk_at "isi") => `(tactic| first | refine r_isi (b := true) (by assumption) (by decide +kernel) ?_ | refine r_isi (b := false) (by assumption) (by decide +kernel) ?_)
local macro_rules | `(tactic| walk_at "rs1") => `(tactic| first
  | with_reducible refine r_seq ?_
  | with_reducible refine r_asg ?_
  | with_reducible refine r_gname ?_
  | with_reducible refine r_ret ?_)
local macro_rules | `(tactic| walk_at "rs") => `(tactic| repeat walk_at "rs1")

open Wd
theorem k_inD {X : Cx} {K : PySem.W.Frag} (h : X.K = K) (hu : X.A.units + 65 < cLine) : OpR X (compareOp .In) (rInD K) := h ▸ op_inD hu
theorem P2.last {α β : Type} {R : α → β → Prop} {l : List α} {m : List β} {b : β} (h : P2 R l m) (hb : m.getLast? = some b) : ∃ l0 a, l = l0 ++ [a] ∧ P2 R l0 m.dropLast ∧ R a b := by
  have e := last_split hb
  have h2 := h
  rw [e] at h2
  have hl := h.len
  have l1 : l.length = m.dropLast.length + 1 := by rw [h2.len, List.length_append, List.length_singleton]
  obtain ⟨a, ha, r⟩ := h2.get' (i := m.dropLast.length) (b := b) (by rw [List.getElem?_append_right (Nat.le_refl _), Nat.sub_self]; rfl)
  refine ⟨l.take m.dropLast.length, a, ?_, ?_, r⟩
  · have d : l.drop m.dropLast.length = [a] := by
      obtain ⟨hh, e2⟩ := List.getElem?_eq_some_iff.mp ha
      rw [List.drop_eq_getElem_cons hh, e2, List.drop_eq_nil_of_le (by omega)]
    conv => lhs; rw [← List.take_append_drop m.dropLast.length l]
    rw [d]
  · have := h2.take m.dropLast.length
    rw [List.take_left'  rfl] at this
    exact this
theorem ixN_m1 {n : Nat} (h : 0 < n) : ixN n (-1) = some (n - 1) := by
  unfold ixN
  rw [if_neg (by decide), if_pos (by omega)]
  congr 1
  omega
section
variable {P : Program} {w : World} {K : PySem.W.Frag} {mg : Str → Option Value} {base : Heap}
theorem r_gSg {t : TGs} {σ : L2.St} {H : Hp} {N : L2.St → Hp → Prop} {v : V} {x : Sg} (h : SgV K H v x) (k : t [.int (x.1 : Nat), .int (x.2 : Nat)] σ H N) : gTup K 2 t v σ H N := by
  obtain ⟨p, rfl, hp⟩ := h
  exact r_gtup hp.sq rfl k
theorem r_tri0 {H : Hp} {Q : VK} {v : V} {x : Tri} (h : TrV K H v x) (q : Q (.int (x.1 : Nat)) H) : rIx K v (.int 0) H Q := by
  obtain ⟨p, rfl, hp⟩ := h
  exact r_ixT hp.sq (atI_nat (j := 0) rfl) q
theorem r_tri1 {H : Hp} {Q : VK} {v : V} {x : Tri} (h : TrV K H v x) (q : Q (.int (x.2.1 : Nat)) H) : rIx K v (.int 1) H Q := by
  obtain ⟨p, rfl, hp⟩ := h
  exact r_ixT hp.sq (atI_nat (j := 1) rfl) q
theorem r_tri2 {H : Hp} {Q : VK} {v : V} {x : Tri} (h : TrV K H v x) (q : Q (.int (x.2.2 : Nat)) H) : rIx K v (.int 2) H Q := by
  obtain ⟨p, rfl, hp⟩ := h
  exact r_ixT hp.sq (atI_nat (j := 2) rfl) q
/-- good lots -/
structure Gtl (W : List Bi) (lots : Lots) : Prop where
  nd : (lots.map Prod.fst).Nodup
  few : lots.length ≤ 300
  mk9 : (marks (Wd.sz W) W.length).length ≤ 99
def spCuts (K : PySem.W.Frag) : Sp := fun vs H Q _ => ∃ (F : Addr → Prop) (b v : V) (W : List Bi) (lots : Lots), vs = [b, v] ∧ WdV K H b W ∧ Gw W ∧ LtV F K H v lots ∧ Gtl W lots ∧
  ∀ d H', Ex H H' → H d = none → CtV K H' (.ref d) (ctsOf W lots) → Q (.ref d) H'
set_option maxHeartbeats 16000000 in
theorem ok_law_cuts (T : Txt K mg) : FnOk P w K mg base CX0 2 T.a_law_cuts T.d_law_cuts ["_law_world", "_law_lots"] (spCuts K) := by
  refine T.F_law_cuts.ok sc_law_cuts (fun vs H Q E h => ?_) (fun cdv A outer s H vs Q E hr h => ?_)
  · obtain ⟨F, b, v, W, lots, rfl, _⟩ := h
    rfl
  · obtain ⟨F, b, v, W, lots, rfl, wd, gw, lt, gt, q⟩ := h
    refine ⟨_, (pss_cons (ps_set (i := 2) sc_law_cuts.nd rfl (Or.inl rfl) pe_dnewK)
        (pss_cons (ps_for PassesOwn.never rfl (pi_list (pv 1)) (pg_unl rfl (pgs_cons (pg_name (i := 3) sc_law_cuts.nd rfl (Or.inl rfl)) (pgs_cons (pg_name (i := 4) sc_law_cuts.nd rfl (Or.inr rfl)) pgs_nil))) (pss_cons (ps_set (i := 5) sc_law_cuts.nd rfl (Or.inl rfl) (pe_lst pa_nil))
        (pss_cons (ps_for PassesOwn.never rfl (pi_list (pe_lc (own := [("_law_mark", 8)]) (g := gName 8) rfl sc_law_cuts.nd (pi_list (pe_call (ok_law_all T) hr (by rfl) T.g_law_all T.F_law_all.kp T.b_law_all .nil pass0 (pa_cons (pv 0) pa_nil))) (blkOk_by (N := N_law_cuts) (sc := defScope s_law_cuts) (by decide +kernel)) (fun _ _ _ _ _ => pg_name (i := 8) sc_law_cuts.nd rfl (Or.inl rfl)) (fun _ _ _ _ _ => (pts_one (pt_cmpR (k_inD (K := K) rfl hr.units65) (pv 8) (pv 4) (by rfl)))) (fun _ _ _ _ _ => (pv 8)))) (pg_tup rfl (pgs_cons (pg_name (i := 6) sc_law_cuts.nd rfl (Or.inl rfl)) (pgs_cons (pg_name (i := 7) sc_law_cuts.nd rfl (Or.inl rfl)) pgs_nil))) (pss_one (ps_if (PW.pt (pw_and (pt_cmpR op_gt (pe_callB call_lenU (by rfl) T.n_len (by decide +kernel) (pa_cons (pv 5) pa_nil)) pe_int (nomark _)) (pw_and (pt_cmpR (op_eqU hr.units) (pe_ix ix_seq (pe_ix ix_seq (pv 5) (pe_un un_neg pe_int) (fun _ _ => rfl)) pe_int (fun _ _ => rfl)) (pv 6) (nomark _)) (pw_and1 (pt_cmpR (op_eqU hr.units) (pe_op op_addU (pe_ix ix_seq (pe_ix ix_seq (pv 5) (pe_un un_neg pe_int) (fun _ _ => rfl)) pe_int (fun _ _ => rfl)) (pe_ix ix_seq (pe_ix ix_seq (pv 5) (pe_un un_neg pe_int) (fun _ _ => rfl)) pe_int (fun _ _ => rfl))) (pv 7) (nomark _)))))) (pss_one (ps_asg (pe_tup (pa_cons (pv 6) (pa_cons (pe_ix ix_seq (pe_ix ix_seq (pv 5) (pe_un un_neg pe_int) (fun _ _ => rfl)) pe_int (fun _ _ => rfl)) (pa_cons (pe_op op_addU (pe_ix ix_seq (pe_ix ix_seq (pv 5) (pe_un un_neg pe_int) (fun _ _ => rfl)) pe_int (fun _ _ => rfl)) pe_int) pa_nil)))) (pg_sub (pv 5) (pe_un un_neg pe_int) set_list))) (pss_one (ps_expr (pe_bm PySem.F.plainAttrs_list PySem.F.slot_list_append PySem.F.type_list_append mt_append (pv 5) (pa_cons (pe_tup (pa_cons (pv 6) (pa_cons (pv 7) (pa_cons pe_int pa_nil)))) pa_nil)))))))
        (pss_one (ps_asg (pe_callTy call_tupU (by rfl) T.n_tuple (by decide +kernel) (pa_cons (pv 5) pa_nil)) (pg_sub (pv 2) (pv 3) (set_dict (Nat.lt_of_le_of_lt (Nat.add_le_add_left (by decide : 1 ≤ 65) _) hr.units65))))))))
        (pss_one (ps_ret (pv 2))))), ?_⟩
    have gc := gc_of gw gt.nd gt.few gt.mk9
    obtain ⟨pl, xl, rfl, _, hpl, hxl⟩ := lt
    obtain ⟨pb, xb, rfl, hpb, hxb⟩ := wd
    have wd : WdV K H (.ref pb) W := ⟨pb, xb, rfl, hpb, hxb⟩
    refine r_seq ?_
    refine r_asg ?_
    intro d nd
    obtain ⟨H1, k1, e1, h1⟩ := nL (.dK []) nd
    rw [← k1]
    walk_at "rd"
    refine l_L (sqL (e1 _ _ hpl)) (fun i σ H' => Ex H H' ∧ ∃ kvs y3 y4 y5 y6 y7 , σ = [some (.ref pb), some (.ref pl), some (.ref d), y3, y4, y5, y6, y7, none] ∧ H' d = some (.dK kvs) ∧ P2 (fun a b => a.1 = .inl (b.1 : Int) ∧ StV K H' a.2 b.2) kvs (ctsOf W (lots.take i))) ⟨e1, [], none, none, none, none, none, rfl, h1, .nil⟩ (fun i σ H' hW => ?_) (fun i z σ H' hi hW => ?_) (fun σ H' hW => ?_)
    · obtain ⟨e, _⟩ := hW
      exact sqL (e _ _ hpl)
    · obtain ⟨e, kvs, y3, y4, y5, y6, y7, rfl, hd, hK⟩ := hW
      obtain ⟨f, hf, qa, ra, gs, rfl, _, _, hq, hrr, hgs⟩ := hxl.get hi
      have il := (List.getElem?_eq_some_iff.mp hf).1
      have few := gt.few
      refine r_gunl (sqL (e _ _ hq)) rfl ?_
      walk_at "rd"
      refine r_small nsz fun l nl => ?_
      obtain ⟨H2, k2, e2, h2⟩ := nL (.lst []) nl
      rw [← k2]
      have e02 := e.trans e2
      have dl : l ≠ d := fun z => by rw [z, hd] at nl; cases nl
      walk_at "rd"
      refine ⟨pb, lf W, rf W, Wd.sz W, W.length, H2, rfl, Same.refl H2, wr_of (imm (R := WdV K) (.ex e02) wd) gw, fun pm G3 H3 ms t3 npm hpm hms => ?_⟩
      have e3 := t3.same
      have e03 := e02.trans e3
      have hpm3 : H3 pm = some (.lst ms) := t3.gh _ _ hpm
      have hms3 : SgL K H3 ms (marks (Wd.sz W) W.length) := p2_imm (.ex t3.gh) hms
      have ml := hms3.len
      have mk := gt.mk9
      walk_at "rd"
      refine l_lcL (sqL hpm3) (fun D j H' => Ex H3 H' ∧ ∃ acc, H' D = some (.lst acc) ∧ SgL K H' acc (((marks (Wd.sz W) W.length).take j).filter fun x => decide (x ∈ f.2))) (fun D hD => ⟨Same.new (Same.refl H3) hD, [], upd_same, .nil⟩) (fun D j H' hW => sqL (hW.1 _ _ hpm3)) (fun D j x H' hD hj hW => ?_) (fun D H' hD hW => ?_)
      · obtain ⟨eD, acc, ha, hA⟩ := hW
        obtain ⟨m, hm, sm⟩ := hms3.get hj
        have sm' := imm (R := SgV K) (.ex eD) sm
        have al := hA.len
        have fl := List.length_filter_le (fun x => decide (x ∈ f.2)) ((marks (Wd.sz W) W.length).take j)
        rw [List.length_take] at fl
        walk_at "rd"
        refine ⟨rfl, ?_⟩
        walk_at "rd"
        have e0' := e03.trans eD
        refine r_inSg sm' (sqL (e0' _ _ hrr)) (p2_imm (.ex e0') hgs) ?_
        rw [List.take_add_one, hm, List.filter_append]
        rw [show ∀ p : Sg → Bool, List.filter p (some m).toList = List.filter p [m] from fun _ => rfl]
        show ∃ k, V.bl _ = .bl k ∧ if k = true then _ else _
        refine ⟨_, rfl, ?_⟩
        cases c : decide (m ∈ f.2) with
        | true =>
          walk_at "rd"
          refine ⟨acc, ha, Nat.lt_of_le_of_lt (show acc.length ≤ 1000 by omega) (by decide), Same.mut eD hD, acc ++ [x], upd_same, ?_⟩
          rw [show [m].filter (fun x => decide (x ∈ f.2)) = [m] by simp only [List.filter, c]]
          have tp := Tk.put (o := .lst (acc ++ [x])) ha
          exact (p2_imm tp hA).snoc (imm tp sm')
        | false =>
          refine ⟨eD, acc, ha, ?_⟩
          show SgL K H' acc (_ ++ [m].filter (fun x => decide (x ∈ f.2)))
          rw [show [m].filter (fun x => decide (x ∈ f.2)) = [] by simp only [List.filter, c], List.append_nil]
          exact hA
      obtain ⟨eD, acc, ha, hA⟩ := hW
      rw [ml, List.take_length] at hA
      have e0D := e03.trans eD
      have hDl : D ≠ l := fun z => by
        have := e3 _ _ h2
        rw [← z, hD] at this
        cases this
      have al := hA.len
      have fl := List.length_filter_le (fun x => decide (x ∈ f.2)) (marks (Wd.sz W) W.length)
      obtain ⟨Fm, hFm⟩ : ∃ Fm, (marks (Wd.sz W) W.length).filter (fun x => decide (x ∈ f.2)) = Fm := ⟨_, rfl⟩
      rw [hFm] at hA al fl
      have hl' : H' l = some (.lst []) := eD _ _ (e3 _ _ h2)
      have hd' : H' d = some (.dK kvs) := eD _ _ (e3 _ _ (e2 _ _ hd))
      have e15 : Ex H H' := e0D
      have hK' : P2 (fun a b => a.1 = .inl (b.1 : Int) ∧ StV K H' a.2 b.2) kvs (ctsOf W (lots.take i)) := hK.imp fun _ _ z => ⟨z.1, imm (R := StV K) (.ex (((e2.trans e3).trans eD))) z.2⟩
      have fD : H D = none := by
        cases z : H D with
        | none => rfl
        | some o => rw [e03 _ _ z] at hD; cases hD
      have fl0 : H l = none := by
        cases z : H l with
        | none => rfl
        | some o => rw [e _ _ z] at nl; cases nl
      refine l_L (sqL ha) (fun j σ H5 => Ex H H5 ∧ H5 D = some (.lst acc) ∧ H5 d = some (.dK kvs) ∧ Tk H' H5 ∧ ∃ rs y6 y7, σ = [some (.ref pb), some (.ref pl), some (.ref d), some (.int (f.1 : Nat)), some (.ref ra), some (.ref l), y6, y7, none] ∧ H5 l = some (.lst rs) ∧ P2 (TrV K H5) rs ((Fm.take j).foldl runStep [])) ⟨e15, ha, hd', fun _ _ h => h, [], _, _, rfl, hl', .nil⟩ (fun j σ H5 hW => sqL hW.2.1) (fun j x σ H5 hj hW => ?_) (fun σ H5 hW => ?_)
      · obtain ⟨e5, ha5, hd5, t5, rs, y6, y7, rfl, hl5, hR⟩ := hW
        obtain ⟨m, hm, sm⟩ := hA.get hj
        have jl := (List.getElem?_eq_some_iff.mp hm).1
        have sm5 := imm (R := SgV K) t5 sm
        have stp : (Fm.take (j + 1)).foldl runStep [] = runStep ((Fm.take j).foldl runStep []) m := by
          rw [List.take_add_one, hm, List.foldl_append]
          rfl
        rw [stp]
        obtain ⟨ac, hac⟩ : ∃ ac, (Fm.take j).foldl runStep [] = ac := ⟨_, rfl⟩
        have acl : ac.length ≤ j := by
          rw [← hac]
          have := (runs_len (Fm.take j) []).1
          rw [List.length_take] at this
          simp at this
          omega
        rw [hac] at hR ⊢
        have rl := hR.len
        refine r_gSg sm5 ?_
        walk_at "rd"
        refine r_lenL (sqL hl5) ?_
        walk_at "rd"
        cases hg : ac.getLast? with
        | none =>
          have a0 : ac = [] := List.getLast?_eq_none_iff.mp hg
          have RS : runStep ac m = ac ++ [(m.1, m.2, 1)] := by
            unfold runStep
            rw [hg, a0]
            rfl
          have r0 : rs.length = 0 := by rw [rl, a0]; rfl
          rw [decide_eq_false (show ¬ (0 : Int) < ((rs.length : Nat) : Int) by omega)]
          walk_at "rd"
          refine r_tyL (sqL hl5) ?_
          walk_at "rd"
          refine r_small nsz fun p6 n6 => ?_
          obtain ⟨H6, k6, e6, h6⟩ := nL (.tup [.int (m.1 : Nat), .int (m.2 : Nat), .int 1]) n6
          rw [← k6]
          walk_at "rd"
          have hl6 := e6 _ _ hl5
          refine r_app hl6 (Nat.lt_of_le_of_lt (show rs.length ≤ 1000 by omega) (by decide)) ?_
          have tp := Tk.put (o := .lst (rs ++ [.ref p6])) hl6
          refine ⟨Same.mut (e5.trans e6) fl0, by rw [upd_ne hDl]; exact e6 _ _ ha5, by rw [upd_ne (Ne.symm dl)]; exact e6 _ _ hd5, (t5.trans (.ex e6)).trans tp, _, _, _, rfl, upd_same, ?_⟩
          rw [RS]
          exact (p2_imm tp (p2_imm (.ex e6) hR)).snoc (imm (R := TrV K) tp ⟨p6, rfl, .inl h6⟩)
        | some t =>
          obtain ⟨rs0, z, hrs, hR0, hz⟩ := P2.last hR hg
          have lst : atI rs (-1) = some z := by rw [hrs]; exact atI_last rs0 z
          have r1 : 0 < rs.length := by rw [hrs, List.length_append, List.length_singleton]; omega
          rw [decide_eq_true (show (0 : Int) < ((rs.length : Nat) : Int) by omega)]
          have RS0 : runStep ac m = if t.1 = m.1 ∧ t.2.1 + t.2.2 = m.2 then ac.dropLast ++ [(m.1, t.2.1, t.2.2 + 1)] else ac ++ [(m.1, m.2, 1)] := by
            unfold runStep
            rw [hg]
          walk_at "rd"
          refine r_ixL (sqL hl5) lst ?_
          walk_at "rd"
          refine r_tri0 hz ?_
          walk_at "rd"
          by_cases c1 : t.1 = m.1
          · rw [decide_eq_true (show V.int ((t.1 : Nat) : Int) = V.int ((m.1 : Nat) : Int) by rw [c1])]
            walk_at "rd"
            refine r_ixL (sqL hl5) lst ?_
            walk_at "rd"
            refine r_tri1 hz ?_
            walk_at "rd"
            refine r_ixL (sqL hl5) lst ?_
            walk_at "rd"
            refine r_tri2 hz ?_
            walk_at "rd"
            by_cases c2 : t.2.1 + t.2.2 = m.2
            · rw [decide_eq_true (show V.int (((t.2.1 : Nat) : Int) + ((t.2.2 : Nat) : Int)) = V.int ((m.2 : Nat) : Int) by rw [← c2]; rfl)]
              walk_at "rd"
              refine r_ixL (sqL hl5) lst ?_
              walk_at "rd"
              refine r_tri1 hz ?_
              walk_at "rd"
              refine r_ixL (sqL hl5) lst ?_
              walk_at "rd"
              refine r_tri2 hz ?_
              walk_at "rd"
              refine r_small nsz fun p6 n6 => ?_
              rw [show ((t.2.2 : Nat) : Int) + 1 = ((t.2.2 + 1 : Nat) : Int) from rfl]
              obtain ⟨H6, k6, e6, h6⟩ := nL (.tup [.int (m.1 : Nat), .int (t.2.1 : Nat), .int (t.2.2 + 1 : Nat)]) n6
              rw [← k6]
              walk_at "rd"
              have hl6 := e6 _ _ hl5
              refine r_setL hl6 (ixN_m1 r1) ?_
              have eset : rs.set (rs.length - 1) (.ref p6) = rs0 ++ [.ref p6] := by
                rw [hrs, List.length_append, List.length_singleton, Nat.add_sub_cancel, List.set_append_right _ _ (Nat.le_refl _), Nat.sub_self]
                rfl
              rw [eset]
              have tp := Tk.put (o := .lst (rs0 ++ [.ref p6])) hl6
              refine ⟨Same.mut (e5.trans e6) fl0, by rw [upd_ne hDl]; exact e6 _ _ ha5, by rw [upd_ne (Ne.symm dl)]; exact e6 _ _ hd5, (t5.trans (.ex e6)).trans tp, _, _, _, rfl, upd_same, ?_⟩
              rw [RS0, if_pos ⟨c1, c2⟩]
              exact (p2_imm tp (p2_imm (.ex e6) hR0)).snoc (imm (R := TrV K) tp ⟨p6, rfl, .inl h6⟩)
            · rw [decide_eq_false (show ¬ V.int (((t.2.1 : Nat) : Int) + ((t.2.2 : Nat) : Int)) = V.int ((m.2 : Nat) : Int) from fun g => c2 (by have := V.int.inj g; omega))]
              have RS : runStep ac m = ac ++ [(m.1, m.2, 1)] := by rw [RS0, if_neg fun g => c2 g.2]
              walk_at "rd"
              refine r_tyL (sqL hl5) ?_
              walk_at "rd"
              refine r_small nsz fun p6 n6 => ?_
              obtain ⟨H6, k6, e6, h6⟩ := nL (.tup [.int (m.1 : Nat), .int (m.2 : Nat), .int 1]) n6
              rw [← k6]
              walk_at "rd"
              have hl6 := e6 _ _ hl5
              refine r_app hl6 (Nat.lt_of_le_of_lt (show rs.length ≤ 1000 by omega) (by decide)) ?_
              have tp := Tk.put (o := .lst (rs ++ [.ref p6])) hl6
              refine ⟨Same.mut (e5.trans e6) fl0, by rw [upd_ne hDl]; exact e6 _ _ ha5, by rw [upd_ne (Ne.symm dl)]; exact e6 _ _ hd5, (t5.trans (.ex e6)).trans tp, _, _, _, rfl, upd_same, ?_⟩
              rw [RS]
              exact (p2_imm tp (p2_imm (.ex e6) hR)).snoc (imm (R := TrV K) tp ⟨p6, rfl, .inl h6⟩)
          · rw [decide_eq_false (show ¬ V.int ((t.1 : Nat) : Int) = V.int ((m.1 : Nat) : Int) from fun g => c1 (by have := V.int.inj g; omega))]
            have RS : runStep ac m = ac ++ [(m.1, m.2, 1)] := by rw [RS0, if_neg fun g => c1 g.1]
            walk_at "rd"
            refine r_tyL (sqL hl5) ?_
            walk_at "rd"
            refine r_small nsz fun p6 n6 => ?_
            obtain ⟨H6, k6, e6, h6⟩ := nL (.tup [.int (m.1 : Nat), .int (m.2 : Nat), .int 1]) n6
            rw [← k6]
            walk_at "rd"
            have hl6 := e6 _ _ hl5
            refine r_app hl6 (Nat.lt_of_le_of_lt (show rs.length ≤ 1000 by omega) (by decide)) ?_
            have tp := Tk.put (o := .lst (rs ++ [.ref p6])) hl6
            refine ⟨Same.mut (e5.trans e6) fl0, by rw [upd_ne hDl]; exact e6 _ _ ha5, by rw [upd_ne (Ne.symm dl)]; exact e6 _ _ hd5, (t5.trans (.ex e6)).trans tp, _, _, _, rfl, upd_same, ?_⟩
            rw [RS]
            exact (p2_imm tp (p2_imm (.ex e6) hR)).snoc (imm (R := TrV K) tp ⟨p6, rfl, .inl h6⟩)
      · obtain ⟨e5, ha5, hd5, t5, rs, y6, y7, rfl, hl5, hR⟩ := hW
        rw [al, List.take_length] at hR
        have runs : Fm.foldl runStep [] = runsOf ((marks (Wd.sz W) W.length).filter fun x => decide (x ∈ f.2)) := by rw [hFm]; rfl
        rw [runs] at hR
        walk_at "rd"
        refine r_tupLV (R := TrV K) hl5 hR fun pt H6 n6 e6 tv => ?_
        have few2 : (ctsOf W (lots.take i)).length = i := by unfold ctsOf; rw [List.length_map, List.length_take]; omega
        have kl : kvs.length = i := hK'.len.trans few2
        walk_at "rd"
        refine ⟨d, _, rfl, DPut.k (k := .inl ((f.1 : Nat) : Int)) (e6 _ _ hd5) (by rw [sizeLine_eq]; omega), ?_⟩
        have nov : valV kvs (.inl ((f.1 : Nat) : Int)) = none := by
          refine valV_none hK' fun e he g => ?_
          unfold ctsOf at he
          obtain ⟨f2, hf2, rfl⟩ := List.mem_map.mp he
          obtain ⟨k, hk⟩ := List.getElem?_of_mem hf2
          have kl2 := (List.getElem?_eq_some_iff.mp hk).1
          rw [List.length_take] at kl2
          rw [List.getElem?_take_of_lt (by omega)] at hk
          have i1 : (lots.map Prod.fst)[k]? = some f.1 := by rw [List.getElem?_map, hk]; exact congrArg some g
          have i2 : (lots.map Prod.fst)[i]? = some f.1 := by rw [List.getElem?_map, hf]; rfl
          have := (List.getElem?_inj (by rw [List.length_map]; omega) gt.nd).mp (i1.trans i2.symm)
          omega
        rw [putK_new _ nov]
        have e56 := e5.trans e6
        have eF : Ex H (upd H6 d (.dK (kvs ++ [(.inl ((f.1 : Nat) : Int), .ref pt)]))) := Same.mut e56 nd
        have tp : Tk H6 (upd H6 d (.dK (kvs ++ [(.inl ((f.1 : Nat) : Int), .ref pt)]))) := fun p xs h => by
          have n : p ≠ d := fun z => by rw [z, e6 _ _ hd5] at h; cases h
          rw [upd_ne n]
          exact h
        refine ⟨eF, _, _, _, _, _, _, rfl, upd_same, ?_⟩
        have : ctsOf W (lots.take (i + 1)) = ctsOf W (lots.take i) ++ [(f.1, runsOf ((marks (Wd.sz W) W.length).filter fun x => decide (x ∈ f.2)))] := by
          unfold ctsOf
          rw [List.take_add_one, hf, List.map_append]
          rfl
        rw [this]
        exact (hK'.imp fun _ _ z => ⟨z.1, imm (R := StV K) tp (imm (R := StV K) (.ex e6) (imm (R := StV K) t5 z.2))⟩).snoc ⟨rfl, imm (R := StV K) tp tv⟩
    · obtain ⟨e, kvs, y3, y4, y5, y6, y7, rfl, hd, hK⟩ := hW
      rw [hxl.len, List.take_length] at hK
      walk_at "rd"
      exact q d H' e nd ⟨d, kvs, rfl, hd, hK⟩
end
end K23

namespace K23
open PySem PySem.Spec PyProof.Rows L2 Dk Tl
/-- one step of a reading -/
local macro_rules | `(tactic| walk_at "rd1") => `(tactic| first
  | ((with_reducible refine r_var (v := ?rv) ?rh ?_); (case rh => rfl))
  | with_reducible refine r_c ?_
  | with_reducible refine r_seq ?_
  | with_reducible refine r_asg ?_
  | with_reducible refine r_par ?_
  | with_reducible refine r_gname ?_
  | with_reducible refine r_op ?_
  | with_reducible refine r_forLo ?_
  | with_reducible refine r_forTo ?_
  | with_reducible refine r_forSo ?_
  | with_reducible refine r_forRo ?_
  | with_reducible refine r_forRvo ?_
  | with_reducible refine r_forZo ?_
  | with_reducible refine r_revS ?_
  | with_reducible refine r_lcRo ?_
  | with_reducible refine r_lcLo ?_
  | with_reducible refine r_yes ?_
  | with_reducible refine r_callK0 ?_
  | with_reducible refine r_break ?_
  | with_reducible refine r_forR2o ?_
  | with_reducible refine r_forEo ?_
  | with_reducible refine r_forESo ?_
  | with_reducible refine r_xfo ?_
  | with_reducible refine r_noP ?_
  | with_reducible refine r_part ?_
  | with_reducible refine r_pI ?_
  | with_reducible refine r_gcons ?_
  | with_reducible refine r_gnil ?_
  | with_reducible refine r_mkO ?_
  | with_reducible refine r_un ?_
  | with_reducible refine r_addI ?_
  | with_reducible refine r_I0 ?_
  | with_reducible refine r_U ?_
  | with_reducible refine r_cons ?_
  | with_reducible refine r_nil ?_
  | with_reducible refine r_CB ?_
  | with_reducible refine r_call ?_
  | with_reducible refine r_callS ?_
  | with_reducible refine r_int ?_
  | with_reducible refine r_max ?_
  | with_reducible refine r_min ?_
  | with_reducible refine r_test ?_
  | with_reducible refine r_B ?_
  | with_reducible refine r_blv ?_
  | with_reducible refine r_and ?_
  | with_reducible refine r_or ?_
  | with_reducible refine r_not ?_
  | with_reducible refine r_andV ?_
  | with_reducible refine r_orV ?_
  | with_reducible refine r_notV ?_
  | with_reducible refine r_ifE ?_
  | with_reducible refine r_ifS ?_
  | with_reducible refine r_ret ?_
  | with_reducible refine r_retN ?_
  | with_reducible refine r_drop ?_
  | with_reducible refine r_next ?_
  | with_reducible refine r_sl ?_
  | with_reducible refine r_gsub ?_
  | with_reducible refine r_bm ?_
  | with_reducible refine r_tup ?_
  | with_reducible refine r_lst ?_
  | with_reducible refine r_isN ?_
  | with_reducible refine r_notN ?_
  | with_reducible refine r_chain ?_
  | with_reducible refine r_lcEio ?_
  | with_reducible refine r_forEi ?_
  | with_reducible refine r_lcTo ?_
  | with_reducible refine r_m1 ?_
  | with_reducible refine r_dget ?_
  | with_reducible refine r_din ?_
  | with_reducible refine r_dnotin ?_
  | with_reducible refine r_starC ?_
  | with_reducible refine r_callKS ?_
  | with_reducible refine r_itt ?_
  | with_reducible refine r_iff ?_
  | with_reducible refine r_ittN ?_
  | with_reducible refine r_iffN ?_
  | ((with_reducible refine r_ittD ?rh ?_); (case rh => rfl))
  | ((with_reducible refine r_iffD ?rh ?_); (case rh => rfl))
  | ((with_reducible refine r_modP ?rh ?_); (case rh => decide))
  | ((with_reducible refine r_eq ?rh ?_); (case rh => rfl))
  | ((with_reducible refine r_eqP ?rh ?_); (case rh => rfl))
  | ((with_reducible refine r_ne ?rh ?_); (case rh => rfl)))
local macro_rules | `(tactic| walk_at "rd") => `(tactic| repeat walk_at "rd1")
local macro_rules | `(tactic| walk_at "isi") => `(tactic| first | refine r_isi (b := true) (by assumption) (by decide +kernel) ?_ | refine r_isi (b := false) (by assumption) (by decide +kernel) ?_)
local macro_rules | `(tactic| walk_at "rs1") => `(tactic| first
  | with_reducible refine r_seq ?_
  | with_reducible refine r_asg ?_
  | with_reducible refine r_gname ?_
  | with_reducible refine r_ret ?_)
local macro_rules | `(tactic| walk_at "rs") => `(tactic| repeat walk_at "rs1")

open Wd
theorem Fu.det {W : List Bi} {row : List Sg} {o o' : Option (Sg × Sg)} (h : Fu W row o) (h' : Fu W row o') : o = o' := by
  cases o with
  | none =>
    cases o' with
    | none => rfl
    | some z =>
      obtain ⟨i, h1, h2, h3, _⟩ := h'
      exact absurd h3 (h i _ _ h1 h2)
  | some y =>
    obtain ⟨i, h1, h2, h3, h4⟩ := h
    cases o' with
    | none => exact absurd h3 (h' i _ _ h1 h2)
    | some z =>
      obtain ⟨j, g1, g2, g3, g4⟩ := h'
      rcases Nat.lt_trichotomy i j with c | c | c
      · exact absurd h3 (g4 i _ _ c h1 h2)
      · subst c
        have e1 := Option.some.inj (h1.symm.trans g1)
        have e2 := Option.some.inj (h2.symm.trans g2)
        exact congrArg some (Prod.ext e1 e2)
      · exact absurd g3 (h4 j _ _ c g1 g2)
theorem seen_shown {W : List Bi} {lots : Lots} {s : Nat} {x : Sg} (ok : OkW W x) : seenB W lots s x = Wd.shown W (ctsOf W lots) s x := by
  unfold seenB Wd.shown
  rw [cut_lot ok]
  rfl
theorem seen_row {W : List Bi} {lots : Lots} {s : Nat} {row : List Sg} (ok : ∀ x ∈ row, OkW W x) : row.filter (seenB W lots s) = row.filter (Wd.shown W (ctsOf W lots) s) :=
  List.filter_congr fun x hx => seen_shown (ok x hx)
/-- the heap without the draws -/
def strip (H : Hp) (b h : Addr) : Hp := fun a => if a = b ∨ a = h then none else H a
theorem strip_at {H : Hp} {b h a : Addr} (n1 : a ≠ b) (n2 : a ≠ h) : strip H b h a = H a := if_neg fun z => z.elim n1 n2
theorem strip_w {H : Hp} {b h : Addr} (bx : Bx H b h) : W2 b h (strip H b h) H := ⟨fun a o e => by
  unfold strip at e
  split at e
  · cases e
  · exact e, if_pos (.inl rfl), if_pos (.inr rfl), bx⟩
theorem strip_ex {G H : Hp} {b h : Addr} (x : W2 b h G H) : Ex G (strip H b h) := fun a o e => by
  have n1 : a ≠ b := fun z => by rw [z, x.nb] at e; cases e
  have n2 : a ≠ h := fun z => by rw [z, x.nh] at e; cases e
  rw [strip_at n1 n2]
  exact x.g _ _ e
theorem strip_tk {H : Hp} {b h : Addr} (bx : Bx H b h) : Tk H (strip H b h) := fun p xs e => by
  obtain ⟨_, z, ms, hb, _, _, hh, _⟩ := bx
  have n1 : p ≠ b := fun z => by rw [z, hb] at e; cases e
  have n2 : p ≠ h := fun z => by rw [z, hh] at e; cases e
  rw [strip_at n1 n2]
  exact e
theorem CtV.strip {K : PySem.W.Frag} {H : Hp} {b h d : Addr} {cts : Cts} (bx : Bx H b h) (n1 : d ≠ b) (n2 : d ≠ h) (c : CtV K H (.ref d) cts) : CtV K (strip H b h) (.ref d) cts := by
  obtain ⟨d', kvs, e, h2, h3⟩ := c
  cases e
  exact ⟨d, kvs, rfl, by rw [strip_at n1 n2]; exact h2, h3.imp fun _ _ z => ⟨z.1, imm (R := StV K) (strip_tk bx) z.2⟩⟩
section
variable {P : Program} {w : World} {K : PySem.W.Frag} {mg : Str → Option Value} {base : Heap}
theorem sg_same {H : Hp} {v u : V} {x : Sg} {d : Nat} (h1 : SgV K H v x) (h2 : SgV K H u x) : Sm K H (d + 2) v u := by
  obtain ⟨p, rfl, hp⟩ := h1
  obtain ⟨q, rfl, hq⟩ := h2
  rw [sm_eq]
  refine .inr (.inr (.inr (.inr (.inl ⟨p, q, _, _, rfl, rfl, hp.tu, hq.tu, Nat.le_trans (show 2 ≤ 1000 by decide) (Nat.le_refl _), .cons ?_ (.cons ?_ .nil)⟩))))
  · rw [sm_eq]; exact .inr (.inr (.inl ⟨_, rfl, rfl⟩))
  · rw [sm_eq]; exact .inr (.inr (.inl ⟨_, rfl, rfl⟩))
theorem sgs_same {H : Hp} {v u : V} {row : List Sg} {d : Nat} (h1 : TupV K (SgV K) H v row) (h2 : TupV K (SgV K) H u row) (hl : row.length ≤ 1000) : Sm K H (d + 3) v u := by
  obtain ⟨p, xs, rfl, hp, hx⟩ := h1
  obtain ⟨q, ys, rfl, hq, hy⟩ := h2
  rw [sm_eq]
  exact .inr (.inr (.inr (.inr (.inl ⟨p, q, xs, ys, rfl, rfl, hp, hq, by rw [hx.len]; exact hl, hx.join (fun a b c r s => sg_same r s) hy⟩))))
theorem sp_same {H : Hp} {v u : V} {z : Sg × Sg} {d : Nat} (h1 : SpV K H v z) (h2 : SpV K H u z) : Sm K H (d + 3) v u := by
  obtain ⟨p, a, c, rfl, hp, s1, s2⟩ := h1
  obtain ⟨q, a2, c2, rfl, hq, t1, t2⟩ := h2
  rw [sm_eq]
  exact .inr (.inr (.inr (.inr (.inl ⟨p, q, _, _, rfl, rfl, hp, hq, Nat.le_trans (show 2 ≤ 1000 by decide) (Nat.le_refl _), .cons (sg_same s1 t1) (.cons (sg_same s2 t2) .nil)⟩))))
theorem op_same {H : Hp} {v u : V} {o : Option (Sg × Sg)} {d : Nat} (h1 : OpV K H v o) (h2 : OpV K H u o) : Sm K H (d + 3) v u := by
  cases o with
  | none =>
    rw [show v = V.non from h1, show u = V.non from h2, sm_eq]
    exact .inl ⟨rfl, rfl⟩
  | some z => exact sp_same h1 h2
theorem str_same {H : Hp} {z : Str} {d : Nat} : Sm K H (d + 1) (.str z) (.str z) := by
  rw [sm_eq]
  exact .inr (.inr (.inr (.inl ⟨z, rfl, rfl⟩)))
theorem OpV.up {H H' : Hp} {v : V} {o : Option (Sg × Sg)} (e : Ex H H') (h : OpV K H v o) : OpV K H' v o := by
  cases o with
  | none => exact h
  | some z => exact imm (R := SpV K) (.ex e) h
theorem dr2_tk {H H' : Hp} {b h : Addr} (bx : Bx H b h) (D : Dr2 b h H H') : Tk H H' := fun p xs e => by
  obtain ⟨_, z, ms, hb, _, _, hh, _⟩ := bx
  have n1 : p ≠ b := fun z => by rw [z, hb] at e; cases e
  have n2 : p ≠ h := fun z => by rw [z, hh] at e; cases e
  exact D.hh _ _ n1 n2 e
theorem or_some (m : Nat) {x : Int} (x0 : 0 ≤ x) (x1 : x < 2) (d : Nat) : ∃ m' : Nat, Builtin.bitOr ((m : Nat) : Int) (x * 2 ^ ((d : Nat) : Int).toNat) = ((m' : Nat) : Int) := by
  have : x = 0 ∨ x = 1 := by omega
  rcases this with rfl | rfl
  · refine ⟨m ||| 0, ?_⟩
    rw [Int.zero_mul, Bits.bitOr_pp (Int.natCast_nonneg _) (Int.le_refl 0), Int.toNat_natCast]
    rfl
  · exact ⟨_, or1_val m d⟩
end
end K23

namespace K23
open PySem PySem.Spec PyProof.Rows L2 Dk Tl
/-- one step of a reading -/
local macro_rules | `(tactic| walk_at "rd1") => `(tactic| first
  | ((with_reducible refine r_var (v := ?rv) ?rh ?_); (case rh => rfl))
  | with_reducible refine r_c ?_
  | with_reducible refine r_seq ?_
  | with_reducible refine r_asg ?_
  | with_reducible refine r_par ?_
  | with_reducible refine r_gname ?_
  | with_reducible refine r_op ?_
  | with_reducible refine r_forLo ?_
  | with_reducible refine r_forTo ?_
  | with_reducible refine r_forSo ?_
  | with_reducible refine r_forRo ?_
  | with_reducible refine r_forRvo ?_
  | with_reducible refine r_forZo ?_
  | with_reducible refine r_revS ?_
  | with_reducible refine r_lcRo ?_
  | with_reducible refine r_lcLo ?_
  | with_reducible refine r_yes ?_
  | with_reducible refine r_callK0 ?_
  | with_reducible refine r_break ?_
  | with_reducible refine r_forR2o ?_
  | with_reducible refine r_forEo ?_
  | with_reducible refine r_forESo ?_
  | with_reducible refine r_xfo ?_
  | with_reducible refine r_noP ?_
  | with_reducible refine r_part ?_
  | with_reducible refine r_pI ?_
  | with_reducible refine r_gcons ?_
  | with_reducible refine r_gnil ?_
  | with_reducible refine r_mkO ?_
  | with_reducible refine r_un ?_
  | with_reducible refine r_addI ?_
  | with_reducible refine r_I0 ?_
  | with_reducible refine r_U ?_
  | with_reducible refine r_cons ?_
  | with_reducible refine r_nil ?_
  | with_reducible refine r_CB ?_
  | with_reducible refine r_call ?_
  | with_reducible refine r_callS ?_
  | with_reducible refine r_int ?_
  | with_reducible refine r_max ?_
  | with_reducible refine r_min ?_
  | with_reducible refine r_test ?_
  | with_reducible refine r_B ?_
  | with_reducible refine r_blv ?_
  | with_reducible refine r_and ?_
  | with_reducible refine r_or ?_
  | with_reducible refine r_not ?_
  | with_reducible refine r_andV ?_
  | with_reducible refine r_orV ?_
  | with_reducible refine r_notV ?_
  | with_reducible refine r_ifE ?_
  | with_reducible refine r_ifS ?_
  | with_reducible refine r_ret ?_
  | with_reducible refine r_retN ?_
  | with_reducible refine r_drop ?_
  | with_reducible refine r_next ?_
  | with_reducible refine r_sl ?_
  | with_reducible refine r_gsub ?_
  | with_reducible refine r_bm ?_
  | with_reducible refine r_tup ?_
  | with_reducible refine r_lst ?_
  | with_reducible refine r_isN ?_
  | with_reducible refine r_notN ?_
  | with_reducible refine r_chain ?_
  | with_reducible refine r_lcEio ?_
  | with_reducible refine r_forEi ?_
  | with_reducible refine r_lcTo ?_
  | with_reducible refine r_m1 ?_
  | with_reducible refine r_dget ?_
  | with_reducible refine r_din ?_
  | with_reducible refine r_dnotin ?_
  | with_reducible refine r_starC ?_
  | with_reducible refine r_callKS ?_
  | with_reducible refine r_itt ?_
  | with_reducible refine r_iff ?_
  | with_reducible refine r_ittN ?_
  | with_reducible refine r_iffN ?_
  | ((with_reducible refine r_ittD ?rh ?_); (case rh => rfl))
  | ((with_reducible refine r_iffD ?rh ?_); (case rh => rfl))
  | ((with_reducible refine r_modP ?rh ?_); (case rh => decide))
  | ((with_reducible refine r_eq ?rh ?_); (case rh => rfl))
  | ((with_reducible refine r_eqP ?rh ?_); (case rh => rfl))
  | ((with_reducible refine r_ne ?rh ?_); (case rh => rfl)))
local macro_rules | `(tactic| walk_at "rd") => `(tactic| repeat walk_at "rd1")
local macro_rules | `(tactic| walk_at "isi") => `(tactic| first | refine r_isi (b := true) (by assumption) (by decide +kernel) ?_ | refine r_isi (b := false) (by assumption) (by decide +kernel) ?_)
local macro_rules | `(tactic| walk_at "rs1") => `(tactic| first
  | with_reducible refine r_seq ?_
  | with_reducible refine r_asg ?_
  | with_reducible refine r_gname ?_
  | with_reducible refine r_ret ?_)
local macro_rules | `(tactic| walk_at "rs") => `(tactic| repeat walk_at "rs1")

open Wd
theorem last_app {α : Type} {a b : List α} (hb : b ≠ []) : (a ++ b).getLast? = b.getLast? := by
  rw [List.getLast?_append]
  cases z : b.getLast? with
  | none => exact absurd (List.getLast?_eq_none_iff.mp z) hb
  | some x => rfl
theorem last11 {α : Type} {m : List α} (h : 22 < m.length) : (m.drop (HT.sIx m.length 0 (some (-11)))).take (HT.sIx m.length m.length none - HT.sIx m.length 0 (some (-11))) = m.drop (m.length - 11) := by
  have e1 : HT.sIx m.length 0 (some (-11)) = m.length - 11 := by
    unfold HT.sIx
    simp
    omega
  have e2 : HT.sIx m.length m.length none = m.length := rfl
  rw [e1, e2]
  exact List.take_of_length_le (by rw [List.length_drop]; omega)
section
variable {P : Program} {w : World} {K : PySem.W.Frag} {mg : Str → Option Value} {base : Heap}
theorem tri_same {H : Hp} {v u : V} {x : Tri} {d : Nat} (h1 : TrV K H v x) (h2 : TrV K H u x) : Sm K H (d + 2) v u := by
  obtain ⟨p, rfl, hp⟩ := h1
  obtain ⟨q, rfl, hq⟩ := h2
  rw [sm_eq]
  refine .inr (.inr (.inr (.inr (.inl ⟨p, q, _, _, rfl, rfl, hp, hq, Nat.le_trans (show 3 ≤ 1000 by decide) (Nat.le_refl _), .cons ?_ (.cons ?_ (.cons ?_ .nil))⟩))))
  all_goals rw [sm_eq]; exact .inr (.inr (.inl ⟨_, rfl, rfl⟩))
theorem st_same {H : Hp} {v u : V} {st : List Tri} {d : Nat} (h1 : StV K H v st) (h2 : StV K H u st) (hl : st.length ≤ 1000) : Sm K H (d + 3) v u := by
  obtain ⟨p, xs, rfl, hp, hx⟩ := h1
  obtain ⟨q, ys, rfl, hq, hy⟩ := h2
  rw [sm_eq]
  exact .inr (.inr (.inr (.inr (.inl ⟨p, q, xs, ys, rfl, rfl, hp, hq, by rw [hx.len]; exact hl, hx.join (fun a b c r s => tri_same r s) hy⟩))))
theorem p2_mem {α β : Type} {R : α → β → Prop} {l : List α} {m : List β} (h : P2 R l m) : P2 (fun a b => R a b ∧ b ∈ m) l m := by
  induction h with
  | nil => exact .nil
  | cons r t ih => exact .cons ⟨r, List.mem_cons_self ..⟩ (ih.imp fun a b z => ⟨z.1, List.mem_cons_of_mem _ z.2⟩)
theorem ct_same {H : Hp} {v u : V} {cts : Cts} (gc : Gc cts) (h1 : CtV K H v cts) (h2 : CtV K H u cts) : Sm K H 6 v u := by
  obtain ⟨p, kvs, rfl, hp, hx⟩ := h1
  obtain ⟨q, kus, rfl, hq, hy⟩ := h2
  rw [sm_eq]
  refine .inr (.inr (.inr (.inr (.inr (.inr ⟨p, q, kvs, kus, trivial, rfl, rfl, hp, hq, by rw [hx.len]; exact gc.few, (p2_mem hx).join (fun a b c r s => ⟨r.1.1.trans s.1.symm, ?_⟩) hy⟩)))))
  have := (gc.len c r.2).1
  exact st_same (d := 0) r.1.2 s.2 (by omega)
end
end K23

/-! births with one more; stands that are reached -/
namespace Wd
open PySem PySem.Spec PyProof.Rows L2 Dk Tl
theorem gw_one : Gw [⟨0, (0, 0), (0, 1), ""⟩] where
  wv := by
    have n1 : ([⟨0, (0, 0), (0, 1), ""⟩] : List Bi).length = 1 := rfl
    rw [n1]
    refine { l := fun c h0 h => by omega, r := fun c h0 h => by omega, lr := fun c h0 h => by omega, n0 := by omega, s0 := rfl, s1 := fun c h0 h => by omega, lo := fun c h0 h => by omega, ro := fun c h0 h => by omega }
  small := by show 1 ≤ 210; decide
  tot := by show 0 + 2 ≤ 750; decide
  tl := fun b hb => by rw [List.mem_singleton.mp hb]; exact Nat.zero_le _
  who := fun b hb => by rw [List.mem_singleton.mp hb]; show 0 < 300; decide
section
variable {W : List Bi} {bi : Bi}
theorem snoc_old {c : Nat} (h : c < W.length) : (W ++ [bi])[c]? = W[c]? := List.getElem?_append_left h
theorem snoc_new : (W ++ [bi])[W.length]? = some bi := by rw [List.getElem?_append_right (Nat.le_refl _), Nat.sub_self]; rfl
theorem lf_snoc : lf (W ++ [bi]) = upn (lf W) W.length bi.l := by
  funext k
  unfold lf upn
  by_cases c : k = W.length
  · rw [if_pos c, c, snoc_new]
  · rw [if_neg c]
    by_cases c2 : k < W.length
    · rw [snoc_old c2]
    · rw [List.getElem?_eq_none (l := W ++ [bi]) (by rw [List.length_append, List.length_singleton]; omega)]
      show _ = (match W[k]? with | some b => _ | none => _)
      rw [List.getElem?_eq_none (l := W) (by omega)]
theorem rf_snoc : rf (W ++ [bi]) = upn (rf W) W.length bi.r := by
  funext k
  unfold rf upn
  by_cases c : k = W.length
  · rw [if_pos c, c, snoc_new]
  · rw [if_neg c]
    by_cases c2 : k < W.length
    · rw [snoc_old c2]
    · rw [List.getElem?_eq_none (l := W ++ [bi]) (by rw [List.length_append, List.length_singleton]; omega)]
      show _ = (match W[k]? with | some b => _ | none => _)
      rw [List.getElem?_eq_none (l := W) (by omega)]
theorem sz_snoc (h0 : 0 < W.length) : sz (W ++ [bi]) = upn (sz W) W.length bi.t.length := by
  funext k
  unfold upn
  by_cases c : k = W.length
  · rw [if_pos c, c]
    exact sz_at h0 snoc_new
  · rw [if_neg c]
    unfold sz
    by_cases k0 : k = 0
    · rw [if_pos k0, if_pos k0]
    · rw [if_neg k0, if_neg k0]
      by_cases c2 : k < W.length
      · rw [snoc_old c2]
      · rw [List.getElem?_eq_none (l := W ++ [bi]) (by rw [List.length_append, List.length_singleton]; omega)]
        rw [List.getElem?_eq_none (l := W) (by omega)]
theorem len_snoc : (W ++ [bi]).length = W.length + 1 := by rw [List.length_append, List.length_singleton]
theorem off_upn {f : Nat → Nat} {k x : Nat} : off (upn f k x) k = off f k := by
  have : ∀ m, m ≤ k → off (upn f k x) m = off f m := by
    intro m
    induction m with
    | zero => intro _; rfl
    | succ m ih =>
      intro hm
      show off (upn f k x) m + upn f k x m = off f m + f m
      rw [ih (by omega), upn_ne (by omega)]
  exact this k (Nat.le_refl _)
theorem gw_snocT (g : Gw W) (ox : OkW W bi.l) (oy : OkW W bi.r) (a : A (lf W) (rf W) bi.l bi.r) (t0 : 0 < bi.t.length) (t1 : bi.t.length ≤ 12) (w : bi.who < 300) (hn : W.length < 210) (ht : off (sz W) W.length + bi.t.length ≤ 750) : Gw (W ++ [bi]) where
  wv := by
    rw [lf_snoc, rf_snoc, sz_snoc g.wv.n0, len_snoc]
    exact g.wv.step ox oy a t0
  small := by rw [len_snoc]; omega
  tot := by
    rw [sz_snoc g.wv.n0, len_snoc]
    show off (upn (sz W) W.length bi.t.length) W.length + upn (sz W) W.length bi.t.length W.length ≤ 750
    rw [off_upn, upd_at]
    exact ht
  tl := fun b hb => by
    rcases List.mem_append.mp hb with h | h
    · exact g.tl b h
    · rw [List.mem_singleton.mp h]; exact t1
  who := fun b hb => by
    rcases List.mem_append.mp hb with h | h
    · exact g.who b h
    · rw [List.mem_singleton.mp h]; exact w
theorem off_12 (g : Gw W) : ∀ m, m ≤ W.length → off (sz W) m ≤ 12 * m
  | 0, _ => Nat.le_refl _
  | m + 1, hm => by
    have := off_12 g m (by omega)
    have := g.sz12 (c := m)
    show off (sz W) m + sz W m ≤ _
    omega
theorem gw_snoc (g : Gw W) (ox : OkW W bi.l) (oy : OkW W bi.r) (a : A (lf W) (rf W) bi.l bi.r) (t0 : 0 < bi.t.length) (t1 : bi.t.length ≤ 12) (w : bi.who < 300) (hn : W.length < 60) : Gw (W ++ [bi]) :=
  gw_snocT g ox oy a t0 t1 w (by omega) (by have := off_12 g W.length (Nat.le_refl _); omega)
theorem A_up (g : Gw W) {x y : Sg} (hx : x.1 < W.length) (hy : y.1 < W.length) (a : A (lf W) (rf W) x y) : A (lf (W ++ [bi])) (rf (W ++ [bi])) x y := by
  rw [lf_snoc, rf_snoc]
  exact g.wv.congrUp hx hy a
theorem ok_old (g : Gw W) {x : Sg} (h : x.1 < W.length) : OkW (W ++ [bi]) x ↔ OkW W x := by
  unfold OkW Ok
  rw [sz_snoc g.wv.n0, len_snoc, upn_ne h]
  exact ⟨fun z => ⟨h, z.2⟩, fun z => ⟨by omega, z.2⟩⟩
theorem ok_newL (g : Gw W) {x : Sg} (ok : OkW (W ++ [bi]) x) (h : x.1 = W.length) : x.2 < bi.t.length := by
  have := ok.2
  rw [sz_snoc g.wv.n0, h, upd_at] at this
  exact this
theorem who_old {c : Nat} (h : c < W.length) : whoOf (W ++ [bi]) c = whoOf W c := by unfold whoOf; rw [snoc_old h]
theorem who_new : whoOf (W ++ [bi]) W.length = bi.who := by unfold whoOf; rw [snoc_new]
end
/-! ### the borders -/
theorem hd_A {W : List Bi} (g : Gw W) : ∀ n, ∀ x : Sg, x.1 < n → OkW W x → x ≠ (0, 0) → A (lf W) (rf W) (0, 0) x
  | 0, x, h, _, _ => absurd h (Nat.not_lt_zero _)
  | n + 1, x, h, ok, ne => by
    rcases Nat.eq_zero_or_pos x.1 with z | z
    · refine (A.same_iff (x := (0, 0)) z.symm).mpr ?_
      show 0 < x.2
      rcases Nat.eq_zero_or_pos x.2 with z2 | z2
      · exact absurd (Prod.ext z z2) ne
      · exact z2
    · refine (A.l_iff (x := (0, 0)) z).mpr ?_
      by_cases e : lf W x.1 = (0, 0)
      · exact .inl e.symm
      · exact .inr (hd_A g n _ (by have := g.wv.l x.1 z ok.1; omega) (g.wv.okL z ok.1) e)
theorem en_A {W : List Bi} (g : Gw W) : ∀ n, ∀ x : Sg, x.1 < n → OkW W x → x ≠ (0, 1) → A (lf W) (rf W) x (0, 1)
  | 0, x, h, _, _ => absurd h (Nat.not_lt_zero _)
  | n + 1, x, h, ok, ne => by
    rcases Nat.eq_zero_or_pos x.1 with z | z
    · refine (A.same_iff (y := (0, 1)) z).mpr ?_
      have := ok.2
      rw [z, sz0] at this
      show x.2 < 1
      rcases Nat.eq_zero_or_pos x.2 with z2 | z2
      · omega
      · exact absurd (Prod.ext z (by omega)) ne
    · refine (A.r_iff (y := (0, 1)) z).mpr ?_
      by_cases e : rf W x.1 = (0, 1)
      · exact .inl e
      · exact .inr (en_A g n _ (by have := g.wv.r x.1 z ok.1; omega) (g.wv.okR z ok.1) e)
/-! ### chains -/
def Ch (W : List Bi) (V : Sg → Bool) : Prop := ∀ x y, OkW W x → OkW W y → V x = true → V y = true → x = y ∨ A (lf W) (rf W) x y ∨ A (lf W) (rf W) y x
theorem kp_pw {W : List Bi} {n : Nat} {row : List Sg} (k : Kp W n row) : row.Pairwise (fun x y => ¬ A (lf W) (rf W) y x ∧ x ≠ y) := by
  rw [List.pairwise_iff_getElem]
  intro i j hi hj h
  refine ⟨fun a => ?_, fun e => ?_⟩
  · have := k.lt j i _ _ (List.getElem?_eq_getElem hj) (List.getElem?_eq_getElem hi) a
    omega
  · have := (List.pairwise_iff_getElem.mp k.nd) i j hi hj h
    exact this e
def rimOf (R : List Sg) : List Sg := (0, 0) :: R ++ [(0, 1)]
theorem rim_pw {W : List Bi} {V : Sg → Bool} (g : Gw W) {row : List Sg} (k : Kp W W.length row) (c : Ch W V) (v0 : ∀ x, V x = true → 0 < x.1) : (rimOf (row.filter V)).Pairwise (A (lf W) (rf W)) := by
  have ok : ∀ x ∈ row.filter V, OkW W x ∧ V x = true ∧ 0 < x.1 := fun x hx => by
    obtain ⟨h1, h2⟩ := List.mem_filter.mp hx
    exact ⟨(k.mem x).mp h1, h2, v0 x h2⟩
  have in1 : (row.filter V).Pairwise (A (lf W) (rf W)) := by
    refine List.Pairwise.imp_of_mem (fun {x y} hx hy h => ?_) ((kp_pw k).filter V)
    rcases c x y (ok x hx).1 (ok y hy).1 (ok x hx).2.1 (ok y hy).2.1 with e | a | a
    · exact absurd e h.2
    · exact a
    · exact absurd a h.1
  unfold rimOf
  rw [List.cons_append, List.pairwise_cons, List.pairwise_append]
  refine ⟨fun x hx => ?_, in1, List.pairwise_singleton _ _, fun x hx y hy => ?_⟩
  · rcases List.mem_append.mp hx with h | h
    · have := ok x h
      exact hd_A g _ x (Nat.lt_succ_self _) this.1 (fun e => by rw [e] at this; exact Nat.lt_irrefl _ this.2.2)
    · rw [List.mem_singleton.mp h]
      exact hd_A g 1 (0, 1) (by decide) ⟨g.wv.n0, by rw [sz0]; decide⟩ (by decide)
  · rw [List.mem_singleton.mp hy]
    have := ok x hx
    exact en_A g _ x (Nat.lt_succ_self _) this.1 (fun e => by rw [e] at this; exact Nat.lt_irrefl _ this.2.2)
theorem rim_ok {W : List Bi} {R : List Sg} (g : Gw W) (h : ∀ x ∈ R, OkW W x) : ∀ x ∈ rimOf R, OkW W x := fun x hx => by
  unfold rimOf at hx
  rw [List.cons_append, List.mem_cons, List.mem_append, List.mem_singleton] at hx
  rcases hx with rfl | hx | rfl
  · exact ⟨g.wv.n0, by rw [sz0]; decide⟩
  · exact h x hx
  · exact ⟨g.wv.n0, by rw [sz0]; decide⟩
theorem pw_at {α : Type} {r : α → α → Prop} {l : List α} (h : l.Pairwise r) {i j : Nat} {x y : α} (hi : l[i]? = some x) (hj : l[j]? = some y) (ij : i < j) : r x y := by
  obtain ⟨a, rfl⟩ := List.getElem?_eq_some_iff.mp hi
  obtain ⟨b, rfl⟩ := List.getElem?_eq_some_iff.mp hj
  exact List.pairwise_iff_getElem.mp h i j a b ij
theorem rim_at {R : List Sg} {i : Nat} (h : i < R.length) : (rimOf R)[i + 1]? = R[i]? := by
  unfold rimOf
  rw [List.cons_append, List.getElem?_cons_succ, List.getElem?_append_left h]
/-- a chain with one chunk more -/
theorem Ch.snoc {W : List Bi} {bi : Bi} {V V' : Sg → Bool} {R : List Sg} {a c : Nat} (g : Gw W) (pw : (rimOf R).Pairwise (A (lf W) (rf W))) (okR : ∀ x ∈ R, OkW W x) (hl : (rimOf R)[a]? = some bi.l) (hr : (rimOf R)[a + c + 1]? = some bi.r) (g' : Gw (W ++ [bi]))
    (hV : ∀ x, OkW W x → V' x = true → ∃ i, R[i]? = some x ∧ (i < a ∨ a + c ≤ i)) : Ch (W ++ [bi]) V' := by
  have lfn : lf (W ++ [bi]) W.length = bi.l := by rw [lf_snoc, upd_at]
  have rfn : rf (W ++ [bi]) W.length = bi.r := by rw [rf_snoc, upd_at]
  have okrim := rim_ok g okR
  have l1 : bi.l.1 < W.length := (okrim _ (List.mem_of_getElem? hl)).1
  have r1 : bi.r.1 < W.length := (okrim _ (List.mem_of_getElem? hr)).1
  -- old against new
  have on : ∀ x y, OkW W x → V' x = true → y.1 = W.length → A (lf (W ++ [bi])) (rf (W ++ [bi])) x y ∨ A (lf (W ++ [bi])) (rf (W ++ [bi])) y x := by
    intro x y ox vx hy
    obtain ⟨i, hi, hh⟩ := hV x ox vx
    have il := (List.getElem?_eq_some_iff.mp hi).1
    have hri : (rimOf R)[i + 1]? = some x := by rw [rim_at il]; exact hi
    rcases hh with h | h
    · left
      refine (A.l_iff (x := x) (y := y) (by rw [hy]; exact ox.1)).mpr ?_
      rw [hy, lfn]
      by_cases e : i + 1 = a
      · rw [e] at hri
        exact .inl (Option.some.inj (hri.symm.trans hl))
      · exact .inr (A_up g ox.1 l1 (pw_at pw hri hl (by omega)))
    · right
      refine (A.r_iff (x := y) (y := x) (by rw [hy]; exact ox.1)).mpr ?_
      rw [hy, rfn]
      by_cases e : i + 1 = a + c + 1
      · rw [e] at hri
        exact .inl (Option.some.inj (hr.symm.trans hri))
      · exact .inr (A_up g r1 ox.1 (pw_at pw hr hri (by omega)))
  have cs : ∀ x, OkW (W ++ [bi]) x → OkW W x ∨ x.1 = W.length := fun x ok => by
    have := ok.1
    rw [len_snoc] at this
    by_cases h : x.1 < W.length
    · exact .inl ((ok_old g h).mp ok)
    · exact .inr (by omega)
  intro x y ox oy vx vy
  rcases cs x ox with hx | hx <;> rcases cs y oy with hy | hy
  · obtain ⟨i, hi, _⟩ := hV x hx vx
    obtain ⟨j, hj, _⟩ := hV y hy vy
    have il := (List.getElem?_eq_some_iff.mp hi).1
    have jl := (List.getElem?_eq_some_iff.mp hj).1
    have hi' : (rimOf R)[i + 1]? = some x := by rw [rim_at il]; exact hi
    have hj' : (rimOf R)[j + 1]? = some y := by rw [rim_at jl]; exact hj
    rcases Nat.lt_trichotomy i j with h | h | h
    · exact .inr (.inl (A_up g hx.1 hy.1 (pw_at pw hi' hj' (by omega))))
    · subst h
      exact .inl (Option.some.inj (hi.symm.trans hj))
    · exact .inr (.inr (A_up g hy.1 hx.1 (pw_at pw hj' hi' (by omega))))
  · rcases on x y hx vx hy with h | h
    · exact .inr (.inl h)
    · exact .inr (.inr h)
  · rcases on y x hy vy hx with h | h
    · exact .inr (.inr h)
    · exact .inr (.inl h)
  · rcases Nat.lt_trichotomy x.2 y.2 with h | h | h
    · exact .inr (.inl ((A.same_iff (hx.trans hy.symm)).mpr h))
    · exact .inl (Prod.ext (hx.trans hy.symm) h)
    · exact .inr (.inr ((A.same_iff (hy.trans hx.symm)).mpr h))
theorem Ch.up {W : List Bi} {bi : Bi} {V V' : Sg → Bool} (g : Gw W) (c : Ch W V) (hV : ∀ x, OkW (W ++ [bi]) x → V' x = true → x.1 < W.length ∧ V x = true) : Ch (W ++ [bi]) V' := fun x y ox oy vx vy => by
  obtain ⟨a1, a2⟩ := hV x ox vx
  obtain ⟨b1, b2⟩ := hV y oy vy
  rcases c x y ((ok_old g a1).mp ox) ((ok_old g b1).mp oy) a2 b2 with h | h | h
  · exact .inl h
  · exact .inr (.inl (A_up g a1 b1 h))
  · exact .inr (.inr (A_up g b1 a1 h))
theorem Ch.sub {W : List Bi} {V V' : Sg → Bool} (c : Ch W V) (hV : ∀ x, OkW W x → V' x = true → V x = true) : Ch W V' := fun x y ox oy vx vy => c x y ox oy (hV x ox vx) (hV y oy vy)
end Wd

namespace K23
open PySem PySem.Spec PyProof.Rows L2 Dk Tl
/-- one step of a reading -/
local macro_rules | `(tactic| walk_at "rd1") => `(tactic| first
  | ((with_reducible refine r_var (v := ?rv) ?rh ?_); (case rh => rfl))
  | with_reducible refine r_c ?_
  | with_reducible refine r_seq ?_
  | with_reducible refine r_asg ?_
  | with_reducible refine r_par ?_
  | with_reducible refine r_gname ?_
  | with_reducible refine r_op ?_
  | with_reducible refine r_forLo ?_
  | with_reducible refine r_forTo ?_
  | with_reducible refine r_forSo ?_
  | with_reducible refine r_forRo ?_
  | with_reducible refine r_forRvo ?_
  | with_reducible refine r_forZo ?_
  | with_reducible refine r_revS ?_
  | with_reducible refine r_lcRo ?_
  | with_reducible refine r_lcLo ?_
  | with_reducible refine r_yes ?_
  | with_reducible refine r_callK0 ?_
  | with_reducible refine r_break ?_
  | with_reducible refine r_forR2o ?_
  | with_reducible refine r_forEo ?_
  | with_reducible refine r_forESo ?_
  | with_reducible refine r_xfo ?_
  | with_reducible refine r_noP ?_
  | with_reducible refine r_part ?_
  | with_reducible refine r_pI ?_
  | with_reducible refine r_gcons ?_
  | with_reducible refine r_gnil ?_
  | with_reducible refine r_mkO ?_
  | with_reducible refine r_un ?_
  | with_reducible refine r_addI ?_
  | with_reducible refine r_I0 ?_
  | with_reducible refine r_U ?_
  | with_reducible refine r_cons ?_
  | with_reducible refine r_nil ?_
  | with_reducible refine r_CB ?_
  | with_reducible refine r_call ?_
  | with_reducible refine r_callS ?_
  | with_reducible refine r_int ?_
  | with_reducible refine r_max ?_
  | with_reducible refine r_min ?_
  | with_reducible refine r_test ?_
  | with_reducible refine r_B ?_
  | with_reducible refine r_blv ?_
  | with_reducible refine r_and ?_
  | with_reducible refine r_or ?_
  | with_reducible refine r_not ?_
  | with_reducible refine r_andV ?_
  | with_reducible refine r_orV ?_
  | with_reducible refine r_notV ?_
  | with_reducible refine r_ifE ?_
  | with_reducible refine r_ifS ?_
  | with_reducible refine r_ret ?_
  | with_reducible refine r_retN ?_
  | with_reducible refine r_drop ?_
  | with_reducible refine r_next ?_
  | with_reducible refine r_sl ?_
  | with_reducible refine r_gsub ?_
  | with_reducible refine r_bm ?_
  | with_reducible refine r_tup ?_
  | with_reducible refine r_lst ?_
  | with_reducible refine r_isN ?_
  | with_reducible refine r_notN ?_
  | with_reducible refine r_chain ?_
  | with_reducible refine r_lcEio ?_
  | with_reducible refine r_forEi ?_
  | with_reducible refine r_lcTo ?_
  | with_reducible refine r_m1 ?_
  | with_reducible refine r_dget ?_
  | with_reducible refine r_din ?_
  | with_reducible refine r_dnotin ?_
  | with_reducible refine r_starC ?_
  | with_reducible refine r_callKS ?_
  | with_reducible refine r_itt ?_
  | with_reducible refine r_iff ?_
  | with_reducible refine r_ittN ?_
  | with_reducible refine r_iffN ?_
  | ((with_reducible refine r_ittD ?rh ?_); (case rh => rfl))
  | ((with_reducible refine r_iffD ?rh ?_); (case rh => rfl))
  | ((with_reducible refine r_modP ?rh ?_); (case rh => decide))
  | ((with_reducible refine r_eq ?rh ?_); (case rh => rfl))
  | ((with_reducible refine r_eqP ?rh ?_); (case rh => rfl))
  | ((with_reducible refine r_ne ?rh ?_); (case rh => rfl)))
local macro_rules | `(tactic| walk_at "rd") => `(tactic| repeat walk_at "rd1")
local macro_rules | `(tactic| walk_at "isi") => `(tactic| first | refine r_isi (b := true) (by assumption) (by decide +kernel) ?_ | refine r_isi (b := false) (by assumption) (by decide +kernel) ?_)
local macro_rules | `(tactic| walk_at "rs1") => `(tactic| first
  | with_reducible refine r_seq ?_
  | with_reducible refine r_asg ?_
  | with_reducible refine r_gname ?_
  | with_reducible refine r_ret ?_)
local macro_rules | `(tactic| walk_at "rs") => `(tactic| repeat walk_at "rs1")

open Wd
/-! ### a sheet as it grows -/
structure Mk (k d : Nat) (W : List Bi) (lots : Lots) (m : Nat) : Prop where
  bits : ∀ j, m.testBit j = true → ∃ e, 1 ≤ e ∧ e < d ∧ j = numf k e
  ch : Ch W (seenB W lots m)
structure Shs (k d : Nat) (W : List Bi) (lots : Lots) (ms : List Nat) : Prop where
  gw : Gw W
  len : W.length ≤ d
  who : ∀ c b, 0 < c → W[c]? = some b → ∃ e, 1 ≤ e ∧ e < d ∧ b.who = numf k e
  lot : ∀ e ∈ lots, ∃ f, 1 ≤ f ∧ f < d ∧ e.1 = numf k f
  nd : (lots.map Prod.fst).Nodup
  few : lots.length < d
  mks : ∀ m ∈ ms, Mk k d W lots m
  ne : ms ≠ []
theorem Shs.one {k : Nat} : Shs k 1 [⟨0, (0, 0), (0, 1), ""⟩] [] [0] where
  gw := gw_one
  len := Nat.le_refl _
  who := fun c b h0 h => by
    have := (List.getElem?_eq_some_iff.mp h).1
    have : c < 1 := this
    omega
  lot := fun e h => absurd h List.not_mem_nil
  nd := List.nodup_nil
  few := by decide
  mks := fun m hm => by
    rw [List.mem_singleton.mp hm]
    refine ⟨(fun j h => by
      rw [Nat.zero_testBit] at h
      cases h), fun x y ox oy vx vy => ?_⟩
    unfold seenB at vx
    rw [Nat.zero_testBit] at vx
    simp at vx
  ne := by simp
theorem seen_pos {W : List Bi} {lots : Lots} {s : Nat} {x : Sg} (h : seenB W lots s x = true) : 0 < x.1 := by
  unfold seenB at h
  rw [Bool.and_eq_true] at h
  exact of_decide_eq_true h.1
theorem seen_iff {W : List Bi} {lots : Lots} {s : Nat} {x : Sg} : seenB W lots s x = true ↔ 0 < x.1 ∧ s.testBit (whoOf W x.1) = true ∧ ∀ e ∈ lots, s.testBit e.1 = true → x ∉ e.2 := by
  unfold seenB lotCut
  rw [Bool.and_eq_true, Bool.and_eq_true, decide_eq_true_iff, Bool.not_eq_true', List.any_eq_false]
  refine ⟨fun ⟨a, b, c⟩ => ⟨a, b, fun e he hb hx => c e he (by rw [hb, decide_eq_true hx]; rfl)⟩, fun ⟨a, b, c⟩ => ⟨a, b, fun e he h => ?_⟩⟩
  rw [Bool.and_eq_true, decide_eq_true_iff] at h
  exact c e he h.1 h.2
theorem Shs.rim {k d : Nat} {W : List Bi} {lots : Lots} {ms : List Nat} (h : Shs k d W lots ms) {old : Nat} (hm : old ∈ ms) : (rimOf ((laid W [] W.length).filter (seenB W lots old))).Pairwise (A (lf W) (rf W)) ∧ ∀ x ∈ (laid W [] W.length).filter (seenB W lots old), OkW W x := by
  have kp := laid_kp h.gw.wv (ch := []) W.length h.gw.wv.n0 (Nat.le_refl _)
  exact ⟨rim_pw h.gw kp (h.mks old hm).ch fun x => seen_pos, fun x hx => (kp.mem x).mp (List.mem_filter.mp hx).1⟩
theorem Shs.step {k d : Nat} {W W' : List Bi} {lots lots' : Lots} {ms : List Nat} (h : Shs k d W lots ms) (d1 : 1 ≤ d) (d7 : d ≤ 7) {old : Nat} (hm : old ∈ ms) {R : List Sg} (hR : (laid W [] W.length).filter (seenB W lots old) = R) {a c : Nat}
    (hl : (c = 0 ∧ lots' = lots) ∨ (0 < c ∧ lots' = lots ++ [(numf k d, (R.drop a).take c)]))
    (hW : W' = W ∨ ∃ bi : Bi, W' = W ++ [bi] ∧ bi.who = numf k d ∧ (rimOf R)[a]? = some bi.l ∧ (rimOf R)[a + c + 1]? = some bi.r ∧ 0 < bi.t.length ∧ bi.t.length ≤ 12) : Shs k (d + 1) W' lots' (ms ++ [old ||| 1 <<< numf k d]) := by
  obtain ⟨pw, okR⟩ := h.rim hm
  rw [hR] at pw okR
  have okrim := rim_ok h.gw okR
  have kp := laid_kp h.gw.wv (ch := []) W.length h.gw.wv.n0 (Nat.le_refl _)
  have ne_d : ∀ e, 1 ≤ e → e < d → numf k e ≠ numf k d := fun e e1 e2 g => by
    have := numf_inj e1 (by omega) d1 d7 g
    omega
  have wh : ∀ c, c < W.length → whoOf W' c = whoOf W c := fun c hc => by
    rcases hW with e | ⟨bi, e, _⟩
    · rw [e]
    · rw [e, who_old hc]
  have sub : ∀ e ∈ lots, e ∈ lots' := fun e he => by
    rcases hl with ⟨_, e2⟩ | ⟨_, e2⟩
    · rw [e2]; exact he
    · rw [e2]; exact List.mem_append_left _ he
  have whoe : ∀ x, OkW W x → 0 < x.1 → ∃ e, 1 ≤ e ∧ e < d ∧ whoOf W x.1 = numf k e := fun x ok x0 => by
    obtain ⟨b, hb⟩ := ok.at
    obtain ⟨e, e1, e2, e3⟩ := h.who x.1 b x0 hb
    exact ⟨e, e1, e2, by rw [who_at hb, e3]⟩
  -- what an old stand shows
  have F1 : ∀ m ∈ ms, ∀ x, OkW W' x → seenB W' lots' m x = true → x.1 < W.length ∧ seenB W lots m x = true := fun m hm x ok v => by
    obtain ⟨v1, v2, v3⟩ := seen_iff.mp v
    have lt : x.1 < W.length := by
      rcases hW with e | ⟨bi, e, e2, _⟩
      · have := ok.1
        rw [e] at this
        exact this
      · have := ok.1
        rw [e, len_snoc] at this
        rcases Nat.lt_or_ge x.1 W.length with z | z
        · exact z
        · exfalso
          have hx : x.1 = W.length := by omega
          rw [e, hx, who_new, e2] at v2
          obtain ⟨f, f1, f2, f3⟩ := (h.mks m hm).bits _ v2
          exact ne_d f f1 f2 f3.symm
    exact ⟨lt, seen_iff.mpr ⟨v1, by rw [← wh _ lt]; exact v2, fun e he hb => v3 e (sub e he) hb⟩⟩
  have tb : ∀ j, (old ||| 1 <<< numf k d).testBit j = (old.testBit j || decide (j = numf k d)) := fun j => by rw [Nat.testBit_or, bit_shl]
  -- what the new stand shows of old signs
  have F2 : ∀ x, OkW W x → seenB W' lots' (old ||| 1 <<< numf k d) x = true → ∃ i, R[i]? = some x ∧ (i < a ∨ a + c ≤ i) := fun x ok v => by
    obtain ⟨v1, v2, v3⟩ := seen_iff.mp v
    obtain ⟨e, e1, e2, e3⟩ := whoe x ok v1
    rw [wh _ ok.1, tb, e3, decide_eq_false (ne_d e e1 e2), Bool.or_false] at v2
    have inR : x ∈ R := by
      rw [← hR]
      refine List.mem_filter.mpr ⟨(kp.mem x).mpr ok, seen_iff.mpr ⟨v1, by rw [e3]; exact v2, fun e he hb => v3 e (sub e he) (by rw [tb, hb]; rfl)⟩⟩
    obtain ⟨i, hi⟩ := List.getElem?_of_mem inR
    refine ⟨i, hi, ?_⟩
    rcases Nat.lt_or_ge i a with z | z
    · exact .inl z
    · rcases Nat.lt_or_ge i (a + c) with z2 | z2
      · exfalso
        rcases hl with ⟨c0, _⟩ | ⟨c0, e2⟩
        · omega
        · refine v3 (numf k d, (R.drop a).take c) (by rw [e2]; exact List.mem_append_right _ (List.mem_singleton.mpr rfl)) (by rw [tb, decide_eq_true rfl, Bool.or_true]) ?_
          refine List.mem_of_getElem? (i := i - a) ?_
          rw [List.getElem?_take_of_lt (by omega), List.getElem?_drop, show a + (i - a) = i by omega]
          exact hi
      · exact .inr z2
  have gw' : Gw W' := by
    rcases hW with e | ⟨bi, e, e2, e3, e4, e5, e6⟩
    · rw [e]; exact h.gw
    · rw [e]
      refine gw_snoc h.gw (okrim _ (List.mem_of_getElem? e3)) (okrim _ (List.mem_of_getElem? e4)) (pw_at pw e3 e4 (by omega)) e5 e6 (by rw [e2]; exact (numf_lt d1 d7).2) ?_
      have := h.len
      omega
  refine ⟨gw', ?_, ?_, ?_, ?_, ?_, ?_, ?_⟩
  · rcases hW with e | ⟨bi, e, _⟩
    · rw [e]; have := h.len; omega
    · rw [e, len_snoc]; have := h.len; omega
  · intro c b c0 hb
    rcases hW with e | ⟨bi, e, e2, _⟩
    · rw [e] at hb
      obtain ⟨f, f1, f2, f3⟩ := h.who c b c0 hb
      exact ⟨f, f1, by omega, f3⟩
    · rw [e] at hb
      have lt := (List.getElem?_eq_some_iff.mp hb).1
      rw [len_snoc] at lt
      rcases Nat.lt_or_ge c W.length with z | z
      · rw [snoc_old z] at hb
        obtain ⟨f, f1, f2, f3⟩ := h.who c b c0 hb
        exact ⟨f, f1, by omega, f3⟩
      · have : c = W.length := by omega
        rw [this, snoc_new] at hb
        rw [← Option.some.inj hb, e2]
        exact ⟨d, d1, by omega, rfl⟩
  · intro e he
    have old_ : e ∈ lots → ∃ f, 1 ≤ f ∧ f < d + 1 ∧ e.1 = numf k f := fun he => by
      obtain ⟨f, f1, f2, f3⟩ := h.lot e he
      exact ⟨f, f1, by omega, f3⟩
    rcases hl with ⟨_, e2⟩ | ⟨_, e2⟩
    · rw [e2] at he
      exact old_ he
    · rw [e2] at he
      rcases List.mem_append.mp he with he | he
      · exact old_ he
      · rw [List.mem_singleton.mp he]
        exact ⟨d, d1, by omega, rfl⟩
  · rcases hl with ⟨_, e2⟩ | ⟨_, e2⟩
    · rw [e2]; exact h.nd
    · rw [e2, List.map_append, List.nodup_append]
      refine ⟨h.nd, by simp, fun x hx y hy e => ?_⟩
      have hy : y = numf k d := List.mem_singleton.mp hy
      obtain ⟨e0, he0, rfl⟩ := List.mem_map.mp hx
      obtain ⟨f, f1, f2, f3⟩ := h.lot e0 he0
      exact ne_d f f1 f2 (f3.symm.trans (e.trans hy))
  · have := h.few
    rcases hl with ⟨_, e2⟩ | ⟨_, e2⟩
    · rw [e2]; omega
    · rw [e2, List.length_append, List.length_singleton]; omega
  · intro m hm'
    rcases List.mem_append.mp hm' with hm' | hm'
    · refine ⟨fun j hj => ?_, ?_⟩
      · obtain ⟨f, f1, f2, f3⟩ := (h.mks m hm').bits j hj
        exact ⟨f, f1, by omega, f3⟩
      · have f := F1 m hm'
        have c0 := (h.mks m hm').ch
        rcases hW with e | ⟨bi, e, _⟩
        · subst e
          exact c0.sub fun x ok v => (f x ok v).2
        · subst e
          exact c0.up h.gw fun x ok v => f x ok v
    · have hm' := List.mem_singleton.mp hm'
      subst hm'
      refine ⟨fun j hj => ?_, ?_⟩
      · rw [tb, Bool.or_eq_true, decide_eq_true_iff] at hj
        rcases hj with hj | hj
        · obtain ⟨f, f1, f2, f3⟩ := (h.mks old hm).bits j hj
          exact ⟨f, f1, by omega, f3⟩
        · exact ⟨d, d1, by omega, hj⟩
      · rcases hW with e | ⟨bi, e, e2, e3, e4, e5, e6⟩
        · subst e
          refine (h.mks old hm).ch.sub fun x ok v => ?_
          obtain ⟨i, hi, _⟩ := F2 x ok v
          have := List.mem_of_getElem? hi
          rw [← hR] at this
          exact (List.mem_filter.mp this).2
        · subst e
          exact Ch.snoc (V := fun _ => true) h.gw pw okR e3 e4 gw' F2
  · simp
/-- how many signs there are -/
theorem marks_few {W : List Bi} (g : Gw W) {t : Nat} (ht : ∀ b ∈ W, b.t.length ≤ t) : (marks (Wd.sz W) W.length).length ≤ 2 + t * (W.length - 1) := by
  rw [marks_len]
  have key : ∀ n, n ≤ W.length → 0 < n → off (Wd.sz W) n ≤ 2 + t * (n - 1) := by
    intro n
    induction n with
    | zero => intro _ h; omega
    | succ n ih =>
      intro hn _
      show off (Wd.sz W) n + Wd.sz W n ≤ _
      rcases Nat.eq_zero_or_pos n with z | z
      · subst z
        show 0 + Wd.sz W 0 ≤ _
        rw [sz0]
        omega
      · have i := ih (by omega) z
        have hs : Wd.sz W n ≤ t := by
          obtain ⟨b, hb⟩ : ∃ b, W[n]? = some b := ⟨_, List.getElem?_eq_getElem (by omega)⟩
          rw [sz_at z hb]
          exact ht b (List.mem_of_getElem? hb)
        have : t * (n + 1 - 1) = t * (n - 1) + t := by
          rw [show n + 1 - 1 = (n - 1) + 1 by omega, Nat.mul_succ]
        omega
  exact key _ (Nat.le_refl _) g.wv.n0
end K23

namespace K23
open PySem PySem.Spec PyProof.Rows L2 Dk Tl
/-- one step of a reading -/
local macro_rules | `(tactic| walk_at "rd1") => `(tactic| first
  | ((with_reducible refine r_var (v := ?rv) ?rh ?_); (case rh => rfl))
  | with_reducible refine r_c ?_
  | with_reducible refine r_seq ?_
  | with_reducible refine r_asg ?_
  | with_reducible refine r_par ?_
  | with_reducible refine r_gname ?_
  | with_reducible refine r_op ?_
  | with_reducible refine r_forLo ?_
  | with_reducible refine r_forTo ?_
  | with_reducible refine r_forSo ?_
  | with_reducible refine r_forRo ?_
  | with_reducible refine r_forRvo ?_
  | with_reducible refine r_forZo ?_
  | with_reducible refine r_revS ?_
  | with_reducible refine r_lcRo ?_
  | with_reducible refine r_lcLo ?_
  | with_reducible refine r_yes ?_
  | with_reducible refine r_callK0 ?_
  | with_reducible refine r_break ?_
  | with_reducible refine r_forR2o ?_
  | with_reducible refine r_forEo ?_
  | with_reducible refine r_forESo ?_
  | with_reducible refine r_xfo ?_
  | with_reducible refine r_noP ?_
  | with_reducible refine r_part ?_
  | with_reducible refine r_pI ?_
  | with_reducible refine r_gcons ?_
  | with_reducible refine r_gnil ?_
  | with_reducible refine r_mkO ?_
  | with_reducible refine r_un ?_
  | with_reducible refine r_addI ?_
  | with_reducible refine r_I0 ?_
  | with_reducible refine r_U ?_
  | with_reducible refine r_cons ?_
  | with_reducible refine r_nil ?_
  | with_reducible refine r_CB ?_
  | with_reducible refine r_call ?_
  | with_reducible refine r_callS ?_
  | with_reducible refine r_int ?_
  | with_reducible refine r_max ?_
  | with_reducible refine r_min ?_
  | with_reducible refine r_test ?_
  | with_reducible refine r_B ?_
  | with_reducible refine r_blv ?_
  | with_reducible refine r_and ?_
  | with_reducible refine r_or ?_
  | with_reducible refine r_not ?_
  | with_reducible refine r_andV ?_
  | with_reducible refine r_orV ?_
  | with_reducible refine r_notV ?_
  | with_reducible refine r_ifE ?_
  | with_reducible refine r_ifS ?_
  | with_reducible refine r_ret ?_
  | with_reducible refine r_retN ?_
  | with_reducible refine r_drop ?_
  | with_reducible refine r_next ?_
  | with_reducible refine r_sl ?_
  | with_reducible refine r_gsub ?_
  | with_reducible refine r_bm ?_
  | with_reducible refine r_tup ?_
  | with_reducible refine r_lst ?_
  | with_reducible refine r_isN ?_
  | with_reducible refine r_notN ?_
  | with_reducible refine r_chain ?_
  | with_reducible refine r_lcEio ?_
  | with_reducible refine r_forEi ?_
  | with_reducible refine r_lcTo ?_
  | with_reducible refine r_m1 ?_
  | with_reducible refine r_dget ?_
  | with_reducible refine r_din ?_
  | with_reducible refine r_dnotin ?_
  | with_reducible refine r_starC ?_
  | with_reducible refine r_callKS ?_
  | with_reducible refine r_itt ?_
  | with_reducible refine r_iff ?_
  | with_reducible refine r_ittN ?_
  | with_reducible refine r_iffN ?_
  | ((with_reducible refine r_ittD ?rh ?_); (case rh => rfl))
  | ((with_reducible refine r_iffD ?rh ?_); (case rh => rfl))
  | ((with_reducible refine r_modP ?rh ?_); (case rh => decide))
  | ((with_reducible refine r_eq ?rh ?_); (case rh => rfl))
  | ((with_reducible refine r_eqP ?rh ?_); (case rh => rfl))
  | ((with_reducible refine r_ne ?rh ?_); (case rh => rfl)))
local macro_rules | `(tactic| walk_at "rd") => `(tactic| repeat walk_at "rd1")
local macro_rules | `(tactic| walk_at "isi") => `(tactic| first | refine r_isi (b := true) (by assumption) (by decide +kernel) ?_ | refine r_isi (b := false) (by assumption) (by decide +kernel) ?_)
local macro_rules | `(tactic| walk_at "rs1") => `(tactic| first
  | with_reducible refine r_seq ?_
  | with_reducible refine r_asg ?_
  | with_reducible refine r_gname ?_
  | with_reducible refine r_ret ?_)
local macro_rules | `(tactic| walk_at "rs") => `(tactic| repeat walk_at "rs1")

open Wd
theorem dr2_of {b h : Addr} {G0 H0 G H : Hp} (k : Wk b h G0 H0 G H) : Dr2 b h H0 H := ⟨fun x o n1 n2 e => k.t.hh x o (fun z => z.elim n1 n2) e, k.w.st⟩
/-- one entry of the lots -/
def LtE (F : Addr → Prop) (K : PySem.W.Frag) (H : Hp) (v : V) (e : Nat × List Sg) : Prop := ∃ (q r : Addr) (gs : List V), v = .ref q ∧ F q ∧ F r ∧ H q = some (.lst [.int (e.1 : Nat), .ref r]) ∧ H r = some (.lst gs) ∧ SgL K H gs e.2
theorem LtE.keep {F : Addr → Prop} {K : PySem.W.Frag} {H H' : Hp} {v : V} {e : Nat × List Sg} (k : ∀ a o, F a → H a = some o → H' a = some o) (t : Tk H H') (h : LtE F K H v e) : LtE F K H' v e := by
  obtain ⟨q, r, gs, a1, a2, a3, a4, a5, a6⟩ := h
  exact ⟨q, r, gs, a1, a2, a3, k _ _ a2 a4, k _ _ a3 a5, p2_imm t a6⟩
theorem LtE.wide {F F' : Addr → Prop} {K : PySem.W.Frag} {H : Hp} {v : V} {e : Nat × List Sg} (k : ∀ a, F a → F' a) (h : LtE F K H v e) : LtE F' K H v e := by
  obtain ⟨q, r, gs, a1, a2, a3, a4, a5, a6⟩ := h
  exact ⟨q, r, gs, a1, k _ a2, k _ a3, a4, a5, a6⟩
theorem ltv_of {F : Addr → Prop} {K : PySem.W.Frag} {H : Hp} {p : Addr} {xs : List V} {lots : Lots} (f : F p) (h : H p = some (.lst xs)) (l : P2 (LtE F K H) xs lots) : LtV F K H (.ref p) lots := ⟨p, xs, rfl, f, h, l⟩
/-- births, cuts and stands as they are drawn -/
structure Ww (W : List Bi) (lots : Lots) (ms : List Nat) : Prop where
  gw : Gw W
  gt : Gtl W lots
  l3 : ∀ e ∈ lots, e.1 < 300
  ne : ms ≠ []
  few : ms.length ≤ 8
  fw : lots.length ≤ 8
  m90 : (marks (Wd.sz W) W.length).length ≤ 90
  who : ∀ c b, 0 < c → W[c]? = some b → 1 ≤ b.who ∧ b.who ≠ 290
  n290 : ∀ e ∈ lots, e.1 ≠ 290
def WwV (K : PySem.W.Frag) (b h : Addr) (H : Hp) (p : Addr) (W : List Bi) (lots : Lots) (ms : List Nat) : Prop := ∃ (wv : V) (pl pm : Addr), H p = some (.tup [wv, .ref pl, .ref pm]) ∧ WdV K H wv W ∧ LtV (fun a => a ≠ b ∧ a ≠ h) K H (.ref pl) lots ∧ pm ≠ b ∧ pm ≠ h ∧ H pm = some (.lst (tbv ms))
theorem numf_290 {k d : Nat} (hd : 1 ≤ d) (hd2 : d ≤ 7) : numf k d ≠ 290 := by
  unfold numf
  split
  · omega
  · split <;> omega
theorem Shs.ww {k d : Nat} {W : List Bi} {lots : Lots} {ms : List Nat} (s : Shs k d W lots ms) (d8 : d ≤ 8) (l : ms.length ≤ 8) : Ww W lots ms where
  gw := s.gw
  gt := ⟨s.nd, by have := s.few; omega, by
    have := marks_few s.gw (t := 12) s.gw.tl
    have := s.len
    have : 12 * (W.length - 1) ≤ 12 * 7 := Nat.mul_le_mul_left _ (by omega)
    omega⟩
  l3 := fun e he => by
    obtain ⟨f, f1, f2, f3⟩ := s.lot e he
    rw [f3]
    exact (numf_lt f1 (by omega)).2
  ne := s.ne
  few := l
  fw := by have := s.few; omega
  m90 := by
    have := marks_few s.gw (t := 12) s.gw.tl
    have := s.len
    have : 12 * (W.length - 1) ≤ 12 * 7 := Nat.mul_le_mul_left _ (by omega)
    omega
  who := fun c b c0 hb => by
    obtain ⟨f, f1, f2, f3⟩ := s.who c b c0 hb
    rw [f3]
    exact ⟨(numf_lt f1 (by omega)).1, numf_290 f1 (by omega)⟩
  n290 := fun e he => by
    obtain ⟨f, f1, f2, f3⟩ := s.lot e he
    rw [f3]
    exact numf_290 f1 (by omega)
section
variable {P : Program} {w : World} {K : PySem.W.Frag} {mg : Str → Option Value} {base : Heap}
def spSheet (K : PySem.W.Frag) : Sp := fun vs H Q _ => ∃ (b h : Addr) (k many : Nat), vs = [.ref b, .int (many : Nat), .int (k : Nat)] ∧ Bx H b h ∧ 1 ≤ many ∧ many ≤ 7 ∧
  ∀ p H' W lots ms, Dr2 b h H H' → Ww W lots ms → WwV K b h H' p W lots ms → Q (.ref p) H'
set_option maxHeartbeats 32000000 in
theorem ok_law_sheet (T : Txt K mg) : FnOk P w K mg base CX0 3 T.a_law_sheet T.d_law_sheet ["_law_box", "_law_many", "_law_kind"] (spSheet K) := by
  refine T.F_law_sheet.ok sc_law_sheet (fun vs H Q E h => ?_) (fun cdv A outer s H vs Q E hr h => ?_)
  · obtain ⟨b, h, k, many, rfl, _⟩ := h
    rfl
  · obtain ⟨b, h, k, many, rfl, bx, many1, many7, q⟩ := h
    refine ⟨_, (pss_cons (ps_set (i := 3) sc_law_sheet.nd rfl (Or.inl rfl) (pe_tup (pa_cons (pe_tup (pa_cons pe_int (pa_cons (pe_tup (pa_cons pe_int (pa_cons pe_int pa_nil))) (pa_cons (pe_tup (pa_cons pe_int (pa_cons pe_int pa_nil))) (pa_cons pe_str pa_nil))))) pa_nil)))
        (pss_cons (ps_set (i := 4) sc_law_sheet.nd rfl (Or.inl rfl) (pe_lst pa_nil))
        (pss_cons (ps_set (i := 5) sc_law_sheet.nd rfl (Or.inl rfl) (pe_lst (pa_cons pe_int pa_nil)))
        (pss_cons (ps_for PassesOwn.never rfl (pi_range2 (by rfl) T.n_range (pa_cons pe_int (pa_cons (pe_op op_addU (pv 1) pe_int) pa_nil))) (pg_name (i := 6) sc_law_sheet.nd rfl (Or.inl rfl)) (pss_cons (ps_set (i := 7) sc_law_sheet.nd rfl (Or.inl rfl) (pe_call (ok_law_num T) (hr.mono (by decide)) (by rfl) T.g_law_num T.F_law_num.kp T.b_law_num .nil pass0 (pa_cons (pv 2) (pa_cons (pv 6) pa_nil))))
        (pss_cons (ps_set (i := 8) sc_law_sheet.nd rfl (Or.inl rfl) (pe_ix ix_seq (pv 5) (pe_op op_sub (pe_callB call_lenU (by rfl) T.n_len (by decide +kernel) (pa_cons (pv 5) pa_nil)) pe_int) (fun _ _ => rfl)))
        (Evl.pss_cut (ps_if (pt_cmpR (op_eqU hr.units) (pe_call (ok_law_pick T) (hr.mono (by decide)) (by rfl) T.g_law_pick T.F_law_pick.kp T.b_law_pick .nil pass0 (pa_cons (pv 0) (pa_cons pe_int pa_nil))) pe_int (nomark _)) (pss_one (ps_set (i := 8) sc_law_sheet.nd rfl (Or.inl rfl) (pe_ix ix_seq (pv 5) (pe_call (ok_law_pick T) (hr.mono (by decide)) (by rfl) T.g_law_pick T.F_law_pick.kp T.b_law_pick .nil pass0 (pa_cons (pv 0) (pa_cons (pe_callB call_lenU (by rfl) T.n_len (by decide +kernel) (pa_cons (pv 5) pa_nil)) pa_nil))) (fun _ _ => rfl)))) pss_nil)
        (pss_cons (ps_set (i := 9) sc_law_sheet.nd rfl (Or.inl rfl) (pe_call (ok_law_seen T) hr (by rfl) T.g_law_seen T.F_law_seen.kp T.b_law_seen .nil pass0 (pa_cons (pv 3) (pa_cons (pv 4) (pa_cons (pv 8) (pa_cons (pe_call (ok_law_laid T) (hr.mono (by decide)) (by rfl) T.g_law_laid T.F_law_laid.kp T.b_law_laid .nil pass0 (pa_cons (pv 3) (pa_cons (pe_tup pa_nil) pa_nil))) pa_nil))))))
        (pss_cons (ps_set (i := 10) sc_law_sheet.nd rfl (Or.inl rfl) (pe_call (ok_law_pick T) (hr.mono (by decide)) (by rfl) T.g_law_pick T.F_law_pick.kp T.b_law_pick .nil pass0 (pa_cons (pv 0) (pa_cons (pe_op op_addU (pe_callB call_lenU (by rfl) T.n_len (by decide +kernel) (pa_cons (pv 9) pa_nil)) pe_int) pa_nil))))
        (pss_cons (ps_set (i := 11) sc_law_sheet.nd rfl (Or.inl rfl) (pe_callB (call_minU rfl) (by rfl) T.n_min (by decide +kernel) (pa_cons (pe_call (ok_law_pick T) (hr.mono (by decide)) (by rfl) T.g_law_pick T.F_law_pick.kp T.b_law_pick .nil pass0 (pa_cons (pv 0) (pa_cons pe_int pa_nil))) (pa_cons (pe_op op_sub (pe_callB call_lenU (by rfl) T.n_len (by decide +kernel) (pa_cons (pv 9) pa_nil)) (pv 10)) pa_nil))))
        (Evl.pss_cut (ps_if (PW.pt (pw_and (pt_cmpR (op_eqU hr.units) (pv 11) pe_int (nomark _)) (pw_and (pt_cmpR op_gt (pe_callB call_lenU (by rfl) T.n_len (by decide +kernel) (pa_cons (pv 9) pa_nil)) pe_int (nomark _)) (pw_and1 (pt_cmpR (op_eqU hr.units) (pe_call (ok_law_pick T) (hr.mono (by decide)) (by rfl) T.g_law_pick T.F_law_pick.kp T.b_law_pick .nil pass0 (pa_cons (pv 0) (pa_cons pe_int pa_nil))) pe_int (nomark _)))))) (pss_cons (ps_set (i := 10) sc_law_sheet.nd rfl (Or.inl rfl) (pe_call (ok_law_pick T) (hr.mono (by decide)) (by rfl) T.g_law_pick T.F_law_pick.kp T.b_law_pick .nil pass0 (pa_cons (pv 0) (pa_cons (pe_op op_sub (pe_callB call_lenU (by rfl) T.n_len (by decide +kernel) (pa_cons (pv 9) pa_nil)) pe_int) pa_nil))))
        (pss_one (ps_set (i := 11) sc_law_sheet.nd rfl (Or.inl rfl) pe_int))) pss_nil)
        (pss_cons (ps_set (i := 12) sc_law_sheet.nd rfl (Or.inl rfl) (pe_op op_addU (pe_op op_addU (pe_lst (pa_cons (pe_tup (pa_cons pe_int (pa_cons pe_int pa_nil))) pa_nil)) (pv 9)) (pe_lst (pa_cons (pe_tup (pa_cons pe_int (pa_cons pe_int pa_nil))) pa_nil))))
        (Evl.pss_cut (ps_if (pt_cmpR op_gt (pv 11) pe_int (nomark _)) (pss_one (ps_expr (pe_bm PySem.F.plainAttrs_list PySem.F.slot_list_append PySem.F.type_list_append mt_append (pv 4) (pa_cons (pe_lst (pa_cons (pv 7) (pa_cons (pe_slice sl_U (pv 9) (po_some (pv 10)) (po_some (pe_op op_addU (pv 10) (pv 11)))) pa_nil))) pa_nil)))) pss_nil)
        (Evl.pss_cut (ps_if (PW.pt (pw_or (pt_cmpR (op_eqU hr.units) (pv 11) pe_int (nomark _)) (pw_or1 (pt_cmpR (op_eqU hr.units) (pe_call (ok_law_pick T) (hr.mono (by decide)) (by rfl) T.g_law_pick T.F_law_pick.kp T.b_law_pick .nil pass0 (pa_cons (pv 0) (pa_cons pe_int pa_nil))) pe_int (nomark _))))) (pss_cons (ps_set (i := 13) sc_law_sheet.nd rfl (Or.inl rfl) (pe_tup (pa_cons (pe_ix ix_seq (pv 12) (pv 10) (fun _ _ => rfl)) (pa_cons (pe_ix ix_seq (pv 12) (pe_op op_addU (pe_op op_addU (pv 10) (pv 11)) pe_int) (fun _ _ => rfl)) pa_nil))))
        (pss_one (ps_set (i := 3) sc_law_sheet.nd rfl (Or.inl rfl) (pe_op op_addU (pv 3) (pe_tup (pa_cons (pe_tup (pa_cons (pv 7) (pa_cons (pe_ix ix_seq (pv 13) pe_int (fun _ _ => rfl)) (pa_cons (pe_ix ix_seq (pv 13) pe_int (fun _ _ => rfl)) (pa_cons (pe_call (ok_law_say T) hr (by rfl) T.g_law_say T.F_law_say.kp T.b_law_say .nil pass0 (pa_cons (pv 0) (pa_cons pe_int pa_nil))) pa_nil))))) pa_nil)))))) pss_nil)
        (pss_one (ps_expr (pe_bm PySem.F.plainAttrs_list PySem.F.slot_list_append PySem.F.type_list_append mt_append (pv 5) (pa_cons (pe_op op_or (pv 8) (pe_op op_shl pe_int (pv 7))) pa_nil)))))))))))))))
        (pss_one (ps_ret (pe_tup (pa_cons (pv 3) (pa_cons (pv 4) (pa_cons (pv 5) pa_nil)))))))))), ?_⟩
    walk_at "rd"
    refine r_small nsz fun p1 n1 => ?_
    obtain ⟨H1, k1, e1, s1⟩ := nS K (a := 0) (b := 0) (i := 0) (j := 0) n1 rfl rfl
    rw [← k1]
    walk_at "rd"
    refine r_small nsz fun p2 n2 => ?_
    obtain ⟨H2, k2, e2, s2⟩ := nS K (a := 0) (b := 1) (i := 0) (j := 1) n2 rfl rfl
    rw [← k2]
    walk_at "rd"
    refine r_small nsz fun p3 n3 => ?_
    obtain ⟨H3, k3, e3, h3⟩ := nL (.tup [.int 0, .ref p1, .ref p2, .str ""]) n3
    rw [← k3]
    have bi0 : BiV K H3 (.ref p3) ⟨0, (0, 0), (0, 1), ""⟩ := ⟨p3, .ref p1, .ref p2, rfl, .inl h3, imm (R := SgV K) (.ex (e2.trans e3)) s1, imm (R := SgV K) (.ex e3) s2⟩
    walk_at "rd"
    refine r_small nsz fun p4 n4 => ?_
    obtain ⟨H4, k4, e4, wd4⟩ := nT (R := BiV K) K n4 (.cons bi0 .nil)
    rw [← k4]
    walk_at "rd"
    refine r_small nsz fun pl n5 => ?_
    obtain ⟨H5, k5, e5, h5⟩ := nL (.lst []) n5
    rw [← k5]
    walk_at "rd"
    refine r_small nsz fun pm n6 => ?_
    obtain ⟨H6, k6, e6, h6⟩ := nL (.lst [.int 0]) n6
    rw [← k6]
    have e04 := ((e1.trans e2).trans e3).trans e4
    have e05 := e04.trans e5
    have e06 := e05.trans e6
    have pl0 : H pl = none := e04.free n5
    have pm0 : H pm = none := e05.free n6
    have plb := bx.nb pl0
    have plh := bx.nh pl0
    have pmb := bx.nb pm0
    have pmh := bx.nh pm0
    have plm : pl ≠ pm := fun z => by rw [← z, h5] at n6; cases n6
    obtain ⟨Fi, hFi⟩ : ∃ Fi : Addr → Prop, Fi = fun a => a ≠ b ∧ a ≠ h ∧ a ≠ pl ∧ a ≠ pm := ⟨_, rfl⟩
    have D08 : Dr2 b h H H6 := Dr2.ex bx e06
    walk_at "rd"
    rw [show ((many : Nat) : Int) + 1 = ((many + 1 : Nat) : Int) from rfl]
    refine l_R1n (by omega) (by omega) (fun d σ H' => ∃ (wv : V) (W : List Bi) (lots : Lots) (ms : List Nat) (xs : List V) (y7 y8 y9 y10 y11 y12 y13 y14 : Option V), σ = [some (.ref b), some (.int (many : Nat)), some (.int (k : Nat)), some wv, some (.ref pl), some (.ref pm), y7, y8, y9, y10, y11, y12, y13, y14] ∧ Dr2 b h H H' ∧ WdV K H' wv W ∧ H' pl = some (.lst xs) ∧ P2 (LtE Fi K H') xs lots ∧ H' pm = some (.lst (tbv ms)) ∧ Shs k d W lots ms ∧ ms.length = d)
      ⟨.ref p4, _, [], [0], [], none, none, none, none, none, none, none, none, rfl, D08, imm (R := WdV K) (.ex (e5.trans e6)) wd4, e6 _ _ h5, .nil, h6, Shs.one, rfl⟩ (fun d σ H' d1 d2 hW => ?_) (fun σ H' hW => ?_)
    · clear D08 e06 e05 e04 wd4 bi0 h3 s1 s2 e1 e2 e3 e4 e5 e6 k1 k2 k3 k4 k5 k6 h5 h6 n1 n2 n3 n4 n5 n6
      obtain ⟨wv, W, lots, ms, xs, y7, y8, y9, y10, y11, y12, y13, y14, rfl, D, wd, hpl, hxs, hpm, sh, ml⟩ := hW
      have gw := sh.gw
      have d7 : d ≤ 7 := by omega
      have kpl : ∀ {Ha Hb : Hp}, Dr2 b h Ha Hb → Bx Ha b h → ∀ {ys : List V} {lo : Lots}, P2 (LtE Fi K Ha) ys lo → P2 (LtE Fi K Hb) ys lo := by
        intro Ha Hb dd st ys lo z
        exact z.imp fun _ _ z => z.keep (fun a o f e => by rw [hFi] at f; exact dd.hh a o f.1 f.2.1 e) (dr2_tk st dd)
      walk_at "rd"
      refine ⟨k, d, rfl, d1, d7, ?_⟩
      obtain ⟨nd1, nd2⟩ := numf_lt (k := k) d1 d7
      obtain ⟨mk, hmk⟩ : ∃ mk, numf k d = mk := ⟨_, rfl⟩
      rw [hmk] at nd1 nd2 ⊢
      walk_at "rd"
      refine r_lenL (sqL hpm) ?_
      rw [List.length_map]
      walk_at "rd"
      obtain ⟨o0, ho0⟩ : ∃ o, ms[ms.length - 1]? = some o := ⟨_, List.getElem?_eq_getElem (by omega)⟩
      rw [show ((ms.length : Nat) : Int) - 1 = ((ms.length - 1 : Nat) : Int) by omega]
      refine r_ixL (v := .int (o0 : Nat)) (sqL hpm) (atI_nat (by rw [List.getElem?_map, ho0]; rfl)) ?_
      walk_at "rd"
      refine ⟨fun σ H1 => ∃ o, o ∈ ms ∧ Dr2 b h H' H1 ∧ σ = [some (.ref b), some (.int (many : Nat)), some (.int (k : Nat)), some wv, some (.ref pl), some (.ref pm), some (.int (d : Nat)), some (.int (mk : Nat)), some (.int (o : Nat)), y10, y11, y12, y13, y14], ?_, ?_⟩
      · walk_at "rd"
        refine ⟨b, h, 4, rfl, D.st, by decide, by decide, fun x Ha x0 x1 Da => ?_⟩
        walk_at "rd"
        refine r_ite (fun _ => ?_) (fun _ => ?_)
        · walk_at "rd"
          refine r_lenL (sqL (Da.hh _ _ pmb pmh hpm)) ?_
          rw [List.length_map]
          walk_at "rd"
          refine ⟨b, h, _, rfl, Da.st, by omega, by omega, fun z Hb z0 z1 Db => ?_⟩
          obtain ⟨o1, ho1⟩ : ∃ o, ms[z.toNat]? = some o := ⟨_, List.getElem?_eq_getElem (by omega)⟩
          walk_at "rd"
          rw [show z = ((z.toNat : Nat) : Int) by omega]
          refine r_ixL (v := .int (o1 : Nat)) (sqL (Db.hh _ _ pmb pmh (Da.hh _ _ pmb pmh hpm))) (atI_nat (by rw [List.getElem?_map, ho1]; rfl)) ?_
          walk_at "rd"
          exact ⟨o1, List.mem_of_getElem? ho1, Da.trans Db, rfl⟩
        · walk_at "rd"
          exact ⟨o0, List.mem_of_getElem? ho0, Da, rfl⟩
      rintro σ H1 ⟨old, hold, D1, rfl⟩
      have D01 := D.trans D1
      have wd1 := imm (R := WdV K) (dr2_tk D.st D1) wd
      have hxs1 := kpl D1 D.st hxs
      have hpl1 := D1.hh _ _ plb plh hpl
      have hpm1 := D1.hh _ _ pmb pmh hpm
      clear wd hxs hpl hpm D1
      walk_at "rd"
      refine r_small nsz fun p2 n2 => ?_
      obtain ⟨H2, k2, e2, t2⟩ := nT (R := NumV) K n2 (.nil : P2 (NumV H1) [] [])
      rw [← k2]
      walk_at "rd"
      refine ⟨wv, .ref p2, W, [], rfl, imm (R := WdV K) (.ex e2) wd1, gw, t2, by decide, fun p3 H3 x3 e3 n3 h3 hx3 => ?_⟩
      have kp := laid_kp gw.wv (ch := []) W.length gw.wv.n0 (Nat.le_refl _)
      have lok : ∀ x ∈ laid W [] W.length, OkW W x := fun x hx => (kp.mem x).mp hx
      have ll := row_lens gw kp (Nat.le_refl _)
      have e13 := e2.trans e3
      walk_at "rd"
      refine ⟨fun _ => True, wv, .ref pl, .ref p3, W, lots, old, _, rfl, imm (R := WdV K) (.ex e13) wd1, ltv_of trivial (e13 _ _ hpl1) (hxs1.imp fun _ _ z => (z.wide fun _ _ => trivial).keep (fun a o _ e => e13 _ _ e) (.ex e13)), .inr ⟨p3, x3, rfl, h3, hx3⟩, lok, by omega, fun p4 H4 x4 e4 n4 h4 hx4 => ?_⟩
      obtain ⟨R, hR⟩ : ∃ R, (laid W [] W.length).filter (seenB W lots old) = R := ⟨_, rfl⟩
      have Rl : R.length ≤ 800 := by
        rw [← hR]
        exact Nat.le_trans (List.length_filter_le ..) ll
      rw [hR] at hx4
      have xl := hx4.len
      have e14 := e13.trans e4
      have D04 := D01.then e14
      have wd4 := imm (R := WdV K) (.ex e14) wd1
      have hxs4 : P2 (LtE Fi K H4) xs lots := hxs1.imp fun _ _ z => z.keep (fun a o _ e => e14 _ _ e) (.ex e14)
      have hpl4 := e14 _ _ hpl1
      have hpm4 := e14 _ _ hpm1
      have p40 : H p4 = none := (D01.then e13).fresh n4
      have p4b := bx.nb p40
      have p4h := bx.nh p40
      clear wd1 hxs1 hpl1 hpm1
      walk_at "rd"
      refine r_lenL (sqL h4) ?_
      walk_at "rd"
      refine ⟨b, h, _, rfl, D04.st, by omega, by omega, fun a0 H5 a00 a01 D5 => ?_⟩
      have h5 := D5.hh _ _ p4b p4h h4
      walk_at "rd"
      refine ⟨b, h, 4, rfl, D5.st, by decide, by decide, fun c0 H6 c00 c01 D6 => ?_⟩
      have D46 := D5.trans D6
      have h6 := D6.hh _ _ p4b p4h h5
      walk_at "rd"
      refine r_lenL (sqL h6) ?_
      walk_at "rd"
      obtain ⟨cc, hcc⟩ : ∃ cc : Int, min c0 (((x4.length : Nat) : Int) - a0) = cc := ⟨_, rfl⟩
      have cc0 : 0 ≤ cc ∧ cc ≤ ((x4.length : Nat) : Int) - a0 := by omega
      rw [hcc]
      refine ⟨fun σ H1 => ∃ a c : Nat, a + c ≤ R.length ∧ Dr2 b h H4 H1 ∧ σ = [some (.ref b), some (.int (many : Nat)), some (.int (k : Nat)), some wv, some (.ref pl), some (.ref pm), some (.int (d : Nat)), some (.int (mk : Nat)), some (.int (old : Nat)), some (.ref p4), some (.int (a : Nat)), some (.int (c : Nat)), y13, y14], ?_, ?_⟩
      · refine r_ifS ?_
        refine any_test (S := fun t H1 => Dr2 b h H4 H1 ∧ (t = true → 2 < R.length)) (fun QB kk => ?_) (fun t H7 hS => ?_)
        · walk_at "rd"
          refine r_ite (fun _ => ?_) (fun _ => kk _ _ ⟨D46, fun z => nomatch z⟩)
          walk_at "rd"
          refine r_lenL (sqL h6) ?_
          walk_at "rd"
          refine r_ite (fun h2 => ?_) (fun _ => kk _ _ ⟨D46, fun z => nomatch z⟩)
          walk_at "rd"
          refine ⟨b, h, 2, rfl, D46.st, by decide, by decide, fun x Ha x0 x1 Da => ?_⟩
          walk_at "rd"
          exact kk _ _ ⟨D46.trans Da, fun _ => by omega⟩
        · obtain ⟨D47, h2⟩ := hS
          refine r_iteB (fun ht => ?_) (fun _ => ?_)
          · have h2 := h2 ht
            walk_at "rd"
            refine r_lenL (sqL (D47.hh _ _ p4b p4h h4)) ?_
            walk_at "rd"
            refine ⟨b, h, _, rfl, D47.st, by omega, by omega, fun x Ha x0 x1 Da => ?_⟩
            walk_at "rd"
            exact ⟨x.toNat, 1, by omega, D47.trans Da, by rw [show ((x.toNat : Nat) : Int) = x by omega]; rfl⟩
          · walk_at "rd"
            exact ⟨a0.toNat, cc.toNat, by omega, D47, by rw [show ((a0.toNat : Nat) : Int) = a0 by omega, show ((cc.toNat : Nat) : Int) = cc by omega]; rfl⟩
      rintro σ H7 ⟨a, c, ac, D47, rfl⟩
      have D07 := D04.trans D47
      have wd7 := imm (R := WdV K) (dr2_tk D04.st D47) wd4
      have hxs7 := kpl D47 D04.st hxs4
      have hpl7 := D47.hh _ _ plb plh hpl4
      have hpm7 := D47.hh _ _ pmb pmh hpm4
      have h7 := D47.hh _ _ p4b p4h h4
      have hx7 := p2_imm (R := SgV K) (dr2_tk D04.st D47) hx4
      clear wd4 hxs4 hpl4 hpm4 D46 D5 D6 h5 h6 h4 hx4
      walk_at "rd"
      refine r_small nsz fun q1 m1 => ?_
      obtain ⟨I1, j1, f1, r1⟩ := nS K (a := 0) (b := 0) (i := 0) (j := 0) m1 rfl rfl
      rw [← j1]
      walk_at "rd"
      refine r_small nsz fun q2 m2 => ?_
      obtain ⟨I2, j2, f2, g2⟩ := nL (.lst [.ref q1]) m2
      rw [← j2]
      walk_at "rd"
      refine r_addL g2 ((f1.trans f2) _ _ h7) (Nat.le_trans (show _ ≤ 1000 by simp; omega) (by decide)) fun q3 m3 => ?_
      obtain ⟨I3, j3, f3, g3⟩ := nL (.lst ([.ref q1] ++ x4)) m3
      rw [← j3]
      walk_at "rd"
      refine r_small nsz fun q4 m4 => ?_
      obtain ⟨I4, j4, f4, r4⟩ := nS K (a := 0) (b := 1) (i := 0) (j := 1) m4 rfl rfl
      rw [← j4]
      walk_at "rd"
      refine r_small nsz fun q5 m5 => ?_
      obtain ⟨I5, j5, f5, g5⟩ := nL (.lst [.ref q4]) m5
      rw [← j5]
      walk_at "rd"
      refine r_addL ((f4.trans f5) _ _ g3) g5 (Nat.le_trans (show _ ≤ 1000 by simp; omega) (by decide)) fun pr m6 => ?_
      obtain ⟨I6, j6, f6, g6⟩ := nL (.lst ([.ref q1] ++ x4 ++ [.ref q4])) m6
      rw [← j6]
      obtain ⟨xr, hxr⟩ : ∃ xr, [.ref q1] ++ x4 ++ [.ref q4] = xr := ⟨_, rfl⟩
      have f16 := ((((f1.trans f2).trans f3).trans f4).trans f5).trans f6
      have SR : SgL K I6 xr (rimOf R) := by
        rw [← hxr]
        have a1 : SgV K I6 (.ref q1) (0, 0) := imm (R := SgV K) (.ex ((((f2.trans f3).trans f4).trans f5).trans f6)) r1
        have a2 : SgV K I6 (.ref q4) (0, 1) := imm (R := SgV K) (.ex (f5.trans f6)) r4
        have a3 := p2_imm (R := SgV K) (.ex f16) hx7
        exact ((P2.cons a1 .nil).app a3).app (.cons a2 .nil)
      rw [hxr] at g6
      have D0I := D07.then f16
      have wdI := imm (R := WdV K) (.ex f16) wd7
      have hxsI : P2 (LtE Fi K I6) xs lots := hxs7.imp fun _ _ z => z.keep (fun a o _ e => f16 _ _ e) (.ex f16)
      have hplI := f16 _ _ hpl7
      have hpmI := f16 _ _ hpm7
      have h4I := f16 _ _ h7
      have hxI := p2_imm (R := SgV K) (.ex f16) hx7
      have pr0 : H pr = none := (D07.then ((((f1.trans f2).trans f3).trans f4).trans f5)).fresh m6
      have prb := bx.nb pr0
      have prh := bx.nh pr0
      have prl : pr ≠ pl := fun z => by rw [z, ((((f1.trans f2).trans f3).trans f4).trans f5) _ _ hpl7] at m6; cases m6
      have prm : pr ≠ pm := fun z => by rw [z, ((((f1.trans f2).trans f3).trans f4).trans f5) _ _ hpm7] at m6; cases m6
      have xsl := hxs7.len
      have few := sh.few
      clear wd7 hxs7 hpl7 hpm7 h7 hx7 r1 g2 g3 r4 g5 j1 j2 j3 j4 j5 j6 m1 m2 m3 m4 m5 m6 hxr f1 f2 f3 f4 f5 f6
      walk_at "rd"
      refine ⟨fun σ H1 => ∃ xs' lots', Dr2 b h H H1 ∧ WdV K H1 wv W ∧ H1 pl = some (.lst xs') ∧ P2 (LtE Fi K H1) xs' lots' ∧ H1 pm = some (.lst (tbv ms)) ∧ H1 pr = some (.lst xr) ∧ SgL K H1 xr (rimOf R) ∧ ((c = 0 ∧ lots' = lots) ∨ (0 < c ∧ lots' = lots ++ [(numf k d, (R.drop a).take c)])) ∧ σ = [some (.ref b), some (.int (many : Nat)), some (.int (k : Nat)), some wv, some (.ref pl), some (.ref pm), some (.int (d : Nat)), some (.int (mk : Nat)), some (.int (old : Nat)), some (.ref p4), some (.int (a : Nat)), some (.int (c : Nat)), some (.ref pr), y14], ?_, ?_⟩
      · walk_at "rd"
        refine r_ite (fun c1 => ?_) (fun c1 => ?_)
        · walk_at "rd"
          refine r_tyL (sqL hplI) ?_
          walk_at "rd"
          rw [show ((a : Nat) : Int) + ((c : Nat) : Int) = ((a + c : Nat) : Int) from rfl]
          refine r_slL (sqL h4I) fun q1 m1 => ?_
          obtain ⟨J1, j1, f1, g1⟩ := nL (.lst (cutV x4 (some (a : Int)) (some ((a + c : Nat) : Int)))) m1
          rw [← j1]
          walk_at "rd"
          refine r_small nsz fun q2 m2 => ?_
          obtain ⟨J2, j2, f2, g2⟩ := nL (.lst [.int (mk : Nat), .ref q1]) m2
          rw [← j2]
          have f12 := f1.trans f2
          have hplJ := f12 _ _ hplI
          walk_at "rd"
          refine r_app hplJ (Nat.lt_of_le_of_lt (show xs.length ≤ 1000 by omega) (by decide)) ?_
          have tp := Tk.put (o := .lst (xs ++ [.ref q2])) hplJ
          have cutR : SgL K J2 (cutV x4 (some (a : Int)) (some ((a + c : Nat) : Int))) ((R.drop a).take c) := by
            have z := (p2_imm (R := SgV K) (.ex f12) hxI).all (some (a : Int)) (some ((a + c : Nat) : Int))
            rw [HT.sIx_nat, HT.sIx_nat, Nat.min_eq_left (by omega), Nat.min_eq_left (by omega), Nat.add_sub_cancel_left] at z
            exact z
          have q10 : H q1 = none := D0I.fresh m1
          have q20 : H q2 = none := (D0I.then f1).fresh m2
          have q1l : q1 ≠ pl := fun z => by rw [z, hplI] at m1; cases m1
          have q1m : q1 ≠ pm := fun z => by rw [z, hpmI] at m1; cases m1
          have q2l : q2 ≠ pl := fun z => by rw [z, f1 _ _ hplI] at m2; cases m2
          have q2m : q2 ≠ pm := fun z => by rw [z, f1 _ _ hpmI] at m2; cases m2
          refine ⟨_, _, (D0I.then f12).mut pl0 plb plh, imm (R := WdV K) ((Tk.ex f12).trans tp) wdI, upd_same, ?_, by rw [upd_ne (Ne.symm plm)]; exact f12 _ _ hpmI, by rw [upd_ne prl]; exact f12 _ _ g6, p2_imm (R := SgV K) ((Tk.ex f12).trans tp) SR, .inr ⟨by omega, rfl⟩, rfl⟩
          refine (hxsI.imp fun _ _ z => z.keep (fun a o f e => ?_) ((Tk.ex f12).trans tp)).snoc ⟨q2, q1, _, rfl, ?_, ?_, ?_, ?_, p2_imm (R := SgV K) tp cutR⟩
          · rw [hFi] at f
            rw [upd_ne f.2.2.1]
            exact f12 _ _ e
          · rw [hFi]; exact ⟨bx.nb q20, bx.nh q20, q2l, q2m⟩
          · rw [hFi]; exact ⟨bx.nb q10, bx.nh q10, q1l, q1m⟩
          · rw [upd_ne q2l, hmk]; exact g2
          · rw [upd_ne q1l]; exact f2 _ _ g1
        · walk_at "rd"
          exact ⟨xs, lots, D0I, wdI, hplI, hxsI, hpmI, g6, SR, .inl ⟨by omega, rfl⟩, rfl⟩
      rintro σ J ⟨xs', lots', D0J, wdJ, hplJ, hxsJ, hpmJ, hprJ, SRJ, hl, rfl⟩
      clear wdI hplI hxsI hpmI g6 SR h4I hxI D0I
      obtain ⟨pw, okR⟩ := sh.rim hold
      rw [hR] at pw okR
      have rl := SRJ.len
      have rl2 : (rimOf R).length = R.length + 2 := by unfold rimOf; simp
      walk_at "rs"
      refine ⟨fun σ H1 => ∃ wv' W' y14', Dr2 b h H H1 ∧ WdV K H1 wv' W' ∧ H1 pl = some (.lst xs') ∧ P2 (LtE Fi K H1) xs' lots' ∧ H1 pm = some (.lst (tbv ms)) ∧ (W' = W ∨ ∃ bi : Bi, W' = W ++ [bi] ∧ bi.who = numf k d ∧ (rimOf R)[a]? = some bi.l ∧ (rimOf R)[a + c + 1]? = some bi.r ∧ 0 < bi.t.length ∧ bi.t.length ≤ 12) ∧ σ = [some (.ref b), some (.int (many : Nat)), some (.int (k : Nat)), some wv', some (.ref pl), some (.ref pm), some (.int (d : Nat)), some (.int (mk : Nat)), some (.int (old : Nat)), some (.ref p4), some (.int (a : Nat)), some (.int (c : Nat)), some (.ref pr), y14'], ?_, ?_⟩
      · refine r_ifS ?_
        refine any_test (S := fun _ H1 => Dr2 b h J H1) (fun QB kk => ?_) (fun t J1 D1 => ?_)
        · walk_at "rd"
          refine r_ite (fun _ => kk _ _ (Dr2.refl D0J.st)) (fun _ => ?_)
          walk_at "rd"
          refine ⟨b, h, 2, rfl, D0J.st, by decide, by decide, fun x Ha x0 x1 Da => ?_⟩
          walk_at "rd"
          exact kk _ _ Da
        · have D01 := D0J.trans D1
          have t1 := dr2_tk D0J.st D1
          have wd1 := imm (R := WdV K) t1 wdJ
          have hxs1 := kpl D1 D0J.st hxsJ
          have hpl1 := D1.hh _ _ plb plh hplJ
          have hpm1 := D1.hh _ _ pmb pmh hpmJ
          have hpr1 := D1.hh _ _ prb prh hprJ
          have SR1 := p2_imm (R := SgV K) t1 SRJ
          refine r_iteB (fun _ => ?_) (fun _ => ?_)
          · obtain ⟨xl, hxl⟩ : ∃ x, (rimOf R)[a]? = some x := ⟨_, List.getElem?_eq_getElem (by omega)⟩
            obtain ⟨xq, hxq⟩ : ∃ x, (rimOf R)[a + c + 1]? = some x := ⟨_, List.getElem?_eq_getElem (by omega)⟩
            walk_at "rd"
            refine r_ixLV hpr1 SR1 hxl fun u1 su1 => ?_
            walk_at "rd"
            rw [show ((a : Nat) : Int) + ((c : Nat) : Int) + 1 = ((a + c + 1 : Nat) : Int) from rfl]
            refine r_ixLV hpr1 SR1 hxq fun u2 su2 => ?_
            walk_at "rd"
            refine r_small nsz fun q1 m1 => ?_
            obtain ⟨J2, j2, f2, sp2⟩ := nP K (R := SgV K) (S := SgV K) m1 su1 su2
            rw [← j2]
            walk_at "rd"
            refine r_ixP0 sp2 fun v1 sv1 => ?_
            walk_at "rd"
            refine r_ixP1 sp2 fun v2 sv2 => ?_
            walk_at "rd"
            refine ⟨b, h, 3, rfl, (D01.then f2).st, by decide, by decide, fun tx J3 t0 tm D3 => ?_⟩
            have t3 := dr2_tk (D01.then f2).st D3
            walk_at "rd"
            refine r_small nsz fun q4 m4 => ?_
            obtain ⟨J4, j4, f4, g4⟩ := nL (.tup [.int (mk : Nat), v1, v2, .str tx]) m4
            rw [← j4]
            have bi4 : BiV K J4 (.ref q4) ⟨mk, xl, xq, tx⟩ := ⟨q4, v1, v2, rfl, .inl g4, imm (R := SgV K) (t3.trans (.ex f4)) sv1, imm (R := SgV K) (t3.trans (.ex f4)) sv2⟩
            walk_at "rd"
            refine r_small nsz fun q5 m5 => ?_
            obtain ⟨J5, j5, f5, w5⟩ := nT (R := BiV K) K m5 (.cons bi4 .nil)
            rw [← j5]
            have t15 := (Tk.ex f2).trans (t3.trans (.ex (f4.trans f5)))
            walk_at "rd"
            have wl := sh.len
            refine r_catTV (imm (R := WdV K) t15 wd1) w5 (by simp; omega) fun wv' J6 f6 w6 => ?_
            have D15 : Dr2 b h J1 J6 := ((Dr2.ex D01.st f2).trans D3).then ((f4.trans f5).trans f6)
            walk_at "rd"
            refine ⟨wv', _, _, D01.trans D15, w6, D15.hh _ _ plb plh hpl1, kpl D15 D01.st hxs1, D15.hh _ _ pmb pmh hpm1, .inr ⟨_, rfl, hmk.symm, hxl, hxq, t0, (by show tx.length ≤ 12; omega)⟩, rfl⟩
          · walk_at "rd"
            exact ⟨wv, W, _, D01, wd1, hpl1, hxs1, hpm1, .inl rfl, rfl⟩
      rintro σ N ⟨wv', W', y14', D0N, wdN, hplN, hxsN, hpmN, hWc, rfl⟩
      clear wdJ hplJ hxsJ hpmJ hprJ SRJ
      walk_at "rd"
      refine r_tyL (sqL hpmN) ?_
      walk_at "rd"
      refine r_I ⟨by omega, by omega, by omega⟩ ?_
      walk_at "rd"
      rw [or1_val]
      refine r_app hpmN (Nat.lt_of_le_of_lt (show (tbv ms).length ≤ 1000 by rw [List.length_map]; omega) (by decide)) ?_
      have tp := Tk.put (o := .lst (tbv ms ++ [.int ((old ||| 1 <<< mk : Nat) : Int)])) hpmN
      have st := sh.step d1 d7 hold hR hl hWc
      rw [hmk] at st
      refine ⟨wv', W', lots', _, xs', _, _, _, _, _, _, _, _, rfl, D0N.mut pm0 pmb pmh, imm (R := WdV K) tp wdN, by rw [upd_ne plm]; exact hplN, hxsN.imp fun _ _ z => z.keep (fun a o f e => by rw [hFi] at f; rw [upd_ne f.2.2.2]; exact e) tp, by rw [upd_same, tb_app]; rfl, st, by rw [List.length_append, ml]; rfl⟩
    · obtain ⟨wv, W, lots, ms, xs, y7, y8, y9, y10, y11, y12, y13, y14, rfl, D, wd, hpl, hxs, hpm, sh, ml⟩ := hW
      walk_at "rd"
      refine r_small nsz fun p9 n9 => ?_
      obtain ⟨H9, k9, e9, h9⟩ := nL (.tup [wv, .ref pl, .ref pm]) n9
      rw [← k9]
      refine q p9 H9 W lots ms (D.then e9) (sh.ww (by omega) (by omega)) ⟨wv, pl, pm, h9, imm (R := WdV K) (.ex e9) wd, ltv_of ⟨plb, plh⟩ (e9 _ _ hpl) (hxs.imp fun _ _ z => (z.wide fun a f => by rw [hFi] at f; exact ⟨f.1, f.2.1⟩).keep (fun a o _ e => e9 _ _ e) (.ex e9)), pmb, pmh, e9 _ _ hpm⟩
end
end K23

namespace K23
open PySem PySem.Spec PyProof.Rows L2 Dk Tl
/-- one step of a reading -/
local macro_rules | `(tactic| walk_at "rd1") => `(tactic| first
  | ((with_reducible refine r_var (v := ?rv) ?rh ?_); (case rh => rfl))
  | with_reducible refine r_c ?_
  | with_reducible refine r_seq ?_
  | with_reducible refine r_asg ?_
  | with_reducible refine r_par ?_
  | with_reducible refine r_gname ?_
  | with_reducible refine r_op ?_
  | with_reducible refine r_forLo ?_
  | with_reducible refine r_forTo ?_
  | with_reducible refine r_forSo ?_
  | with_reducible refine r_forRo ?_
  | with_reducible refine r_forRvo ?_
  | with_reducible refine r_forZo ?_
  | with_reducible refine r_revS ?_
  | with_reducible refine r_lcRo ?_
  | with_reducible refine r_lcLo ?_
  | with_reducible refine r_yes ?_
  | with_reducible refine r_callK0 ?_
  | with_reducible refine r_break ?_
  | with_reducible refine r_forR2o ?_
  | with_reducible refine r_forEo ?_
  | with_reducible refine r_forESo ?_
  | with_reducible refine r_xfo ?_
  | with_reducible refine r_noP ?_
  | with_reducible refine r_part ?_
  | with_reducible refine r_pI ?_
  | with_reducible refine r_gcons ?_
  | with_reducible refine r_gnil ?_
  | with_reducible refine r_mkO ?_
  | with_reducible refine r_un ?_
  | with_reducible refine r_addI ?_
  | with_reducible refine r_I0 ?_
  | with_reducible refine r_U ?_
  | with_reducible refine r_cons ?_
  | with_reducible refine r_nil ?_
  | with_reducible refine r_CB ?_
  | with_reducible refine r_call ?_
  | with_reducible refine r_callS ?_
  | with_reducible refine r_int ?_
  | with_reducible refine r_max ?_
  | with_reducible refine r_min ?_
  | with_reducible refine r_test ?_
  | with_reducible refine r_B ?_
  | with_reducible refine r_blv ?_
  | with_reducible refine r_and ?_
  | with_reducible refine r_or ?_
  | with_reducible refine r_not ?_
  | with_reducible refine r_andV ?_
  | with_reducible refine r_orV ?_
  | with_reducible refine r_notV ?_
  | with_reducible refine r_ifE ?_
  | with_reducible refine r_ifS ?_
  | with_reducible refine r_ret ?_
  | with_reducible refine r_retN ?_
  | with_reducible refine r_drop ?_
  | with_reducible refine r_next ?_
  | with_reducible refine r_sl ?_
  | with_reducible refine r_gsub ?_
  | with_reducible refine r_bm ?_
  | with_reducible refine r_tup ?_
  | with_reducible refine r_lst ?_
  | with_reducible refine r_isN ?_
  | with_reducible refine r_notN ?_
  | with_reducible refine r_chain ?_
  | with_reducible refine r_lcEio ?_
  | with_reducible refine r_forEi ?_
  | with_reducible refine r_lcTo ?_
  | with_reducible refine r_m1 ?_
  | with_reducible refine r_dget ?_
  | with_reducible refine r_din ?_
  | with_reducible refine r_dnotin ?_
  | with_reducible refine r_starC ?_
  | with_reducible refine r_callKS ?_
  | with_reducible refine r_itt ?_
  | with_reducible refine r_iff ?_
  | with_reducible refine r_ittN ?_
  | with_reducible refine r_iffN ?_
  | ((with_reducible refine r_ittD ?rh ?_); (case rh => rfl))
  | ((with_reducible refine r_iffD ?rh ?_); (case rh => rfl))
  | ((with_reducible refine r_modP ?rh ?_); (case rh => decide))
  | ((with_reducible refine r_eq ?rh ?_); (case rh => rfl))
  | ((with_reducible refine r_eqP ?rh ?_); (case rh => rfl))
  | ((with_reducible refine r_ne ?rh ?_); (case rh => rfl)))
local macro_rules | `(tactic| walk_at "rd") => `(tactic| repeat walk_at "rd1")
local macro_rules | `(tactic| walk_at "isi") => `(tactic| first | refine r_isi (b := true) (by assumption) (by decide +kernel) ?_ | refine r_isi (b := false) (by assumption) (by decide +kernel) ?_)
local macro_rules | `(tactic| walk_at "rs1") => `(tactic| first
  | with_reducible refine r_seq ?_
  | with_reducible refine r_asg ?_
  | with_reducible refine r_gname ?_
  | with_reducible refine r_ret ?_)
local macro_rules | `(tactic| walk_at "rs") => `(tactic| repeat walk_at "rs1")

open Wd
theorem ok00 {W : List Bi} (g : Gw W) : OkW W (0, 0) := ⟨g.wv.n0, by show 0 < Wd.sz W 0; rw [sz0]; decide⟩
theorem ok01 {W : List Bi} (g : Gw W) : OkW W (0, 1) := ⟨g.wv.n0, by show 1 < Wd.sz W 0; rw [sz0]; decide⟩
theorem A01 {W : List Bi} : A (lf W) (rf W) (0, 0) (0, 1) := (A.same_iff (x := (0, 0)) (y := (0, 1)) rfl).mpr (by decide)
theorem hinge_gw {w1 w2 w3 : Nat} {t1 t2 t3 : Str} {l r : Sg} (a1 : 0 < t1.length) (b1 : t1.length ≤ 12) (a2 : 0 < t2.length) (b2 : t2.length ≤ 12) (a3 : 0 < t3.length) (b3 : t3.length ≤ 12) (u1 : w1 < 300) (u2 : w2 < 300) (u3 : w3 < 300)
    (lr : (l = (1, t1.length - 1) ∧ r = (0, 1)) ∨ (l = (0, 0) ∧ r = (1, 0))) : Gw [⟨0, (0, 0), (0, 1), ""⟩, ⟨w1, (0, 0), (0, 1), t1⟩, ⟨w2, (0, 0), (0, 1), t2⟩, ⟨w3, l, r, t3⟩] := by
  have g1 := gw_one
  have g2 := gw_snoc (bi := ⟨w1, (0, 0), (0, 1), t1⟩) g1 (ok00 g1) (ok01 g1) A01 a1 b1 u1 (show 1 < 60 by decide)
  have g3 := gw_snoc (bi := ⟨w2, (0, 0), (0, 1), t2⟩) g2 (ok00 g2) (ok01 g2) A01 a2 b2 u2 (show 2 < 60 by decide)
  have s1 : Wd.sz ([⟨0, (0, 0), (0, 1), ""⟩] ++ [⟨w1, (0, 0), (0, 1), t1⟩] ++ [⟨w2, (0, 0), (0, 1), t2⟩]) 1 = t1.length := sz_at (b := ⟨w1, (0, 0), (0, 1), t1⟩) (by decide) rfl
  have o1 : ∀ i, i < t1.length → OkW ([⟨0, (0, 0), (0, 1), ""⟩] ++ [⟨w1, (0, 0), (0, 1), t1⟩] ++ [⟨w2, (0, 0), (0, 1), t2⟩]) (1, i) := fun i hi => ⟨(by decide : 1 < 3), by show i < Wd.sz _ 1; rw [s1]; exact hi⟩
  refine gw_snoc (bi := ⟨w3, l, r, t3⟩) g3 ?_ ?_ ?_ a3 b3 u3 (show 3 < 60 by decide)
  · rcases lr with ⟨rfl, rfl⟩ | ⟨rfl, rfl⟩
    · exact o1 _ (by omega)
    · exact ok00 g3
  · rcases lr with ⟨rfl, rfl⟩ | ⟨rfl, rfl⟩
    · exact ok01 g3
    · exact o1 _ (by omega)
  · rcases lr with ⟨rfl, rfl⟩ | ⟨rfl, rfl⟩
    · exact en_A g3 2 (1, t1.length - 1) (show 1 < 2 by decide) (o1 _ (by omega)) (fun e => by cases (Prod.mk.inj e).1)
    · exact hd_A g3 2 (1, 0) (show 1 < 2 by decide) (o1 _ (by omega)) (fun e => by cases (Prod.mk.inj e).1)
section
variable {P : Program} {w : World} {K : PySem.W.Frag} {mg : Str → Option Value} {base : Heap}
def spHinge (K : PySem.W.Frag) : Sp := fun vs H Q _ => ∃ (b h : Addr) (k many : Nat), vs = [.ref b, .int (many : Nat), .int (k : Nat)] ∧ Bx H b h ∧ 2 ≤ many ∧ many ≤ 7 ∧
  ∀ v H' W, Dr2 b h H H' → WdV K H' v W → Gw W → W.length = 4 → (∀ x ∈ W, x.t.length ≤ 3) → (∀ c b, 0 < c → W[c]? = some b → ∃ e, 1 ≤ e ∧ e ≤ 7 ∧ b.who = numf k e) → Q v H'
set_option maxHeartbeats 16000000 in
theorem ok_law_hinge (T : Txt K mg) : FnOk P w K mg base CX0 3 T.a_law_hinge T.d_law_hinge ["_law_box", "_law_many", "_law_kind"] (spHinge K) := by
  refine T.F_law_hinge.ok sc_law_hinge (fun vs H Q E h => ?_) (fun cdv A outer s H vs Q E hr h => ?_)
  · obtain ⟨b, h, k, many, rfl, _⟩ := h
    rfl
  · obtain ⟨b, h, k, many, rfl, bx, m2, m7, q⟩ := h
    refine ⟨_, (pss_cons (ps_set (i := 3) sc_law_hinge.nd rfl (Or.inl rfl) (pe_tup (pa_cons (pe_call (ok_law_num T) (hr.mono (by decide)) (by rfl) T.g_law_num T.F_law_num.kp T.b_law_num .nil pass0 (pa_cons (pv 2) (pa_cons pe_int pa_nil))) (pa_cons (pe_tup (pa_cons pe_int (pa_cons pe_int pa_nil))) (pa_cons (pe_tup (pa_cons pe_int (pa_cons pe_int pa_nil))) (pa_cons (pe_call (ok_law_say T) hr (by rfl) T.g_law_say T.F_law_say.kp T.b_law_say .nil pass0 (pa_cons (pv 0) (pa_cons pe_int pa_nil))) pa_nil))))))
        (pss_cons (ps_set (i := 4) sc_law_hinge.nd rfl (Or.inl rfl) (pe_tup (pa_cons (pe_tup (pa_cons pe_int (pa_cons (pe_tup (pa_cons pe_int (pa_cons pe_int pa_nil))) (pa_cons (pe_tup (pa_cons pe_int (pa_cons pe_int pa_nil))) (pa_cons pe_str pa_nil))))) (pa_cons (pv 3) (pa_cons (pe_tup (pa_cons (pe_call (ok_law_num T) (hr.mono (by decide)) (by rfl) T.g_law_num T.F_law_num.kp T.b_law_num .nil pass0 (pa_cons (pv 2) (pa_cons pe_int pa_nil))) (pa_cons (pe_tup (pa_cons pe_int (pa_cons pe_int pa_nil))) (pa_cons (pe_tup (pa_cons pe_int (pa_cons pe_int pa_nil))) (pa_cons (pe_call (ok_law_say T) hr (by rfl) T.g_law_say T.F_law_say.kp T.b_law_say .nil pass0 (pa_cons (pv 0) (pa_cons pe_int pa_nil))) pa_nil))))) pa_nil)))))
        (pss_cons (ps_set (i := 5) sc_law_hinge.nd rfl (Or.inl rfl) (pe_ix ix_seq (pe_lst (pa_cons (pe_lst (pa_cons (pe_tup (pa_cons pe_int (pa_cons (pe_op op_sub (pe_callB call_lenU (by rfl) T.n_len (by decide +kernel) (pa_cons (pe_ix ix_seq (pv 3) pe_int (fun _ _ => rfl)) pa_nil)) pe_int) pa_nil))) (pa_cons (pe_tup (pa_cons pe_int (pa_cons pe_int pa_nil))) pa_nil))) (pa_cons (pe_lst (pa_cons (pe_tup (pa_cons pe_int (pa_cons pe_int pa_nil))) (pa_cons (pe_tup (pa_cons pe_int (pa_cons pe_int pa_nil))) pa_nil))) pa_nil))) (pe_callTy call_intU (by rfl) T.n_int (by decide +kernel) (pa_cons (pe_cmpR (op_eqU hr.units) (pe_call (ok_law_pick T) (hr.mono (by decide)) (by rfl) T.g_law_pick T.F_law_pick.kp T.b_law_pick .nil pass0 (pa_cons (pv 0) (pa_cons pe_int pa_nil))) pe_int (nomark _)) pa_nil)) (fun _ _ => rfl)))
        (pss_cons (ps_set (i := 6) sc_law_hinge.nd rfl (Or.inl rfl) (pe_call (ok_law_num T) (hr.mono (by decide)) (by rfl) T.g_law_num T.F_law_num.kp T.b_law_num .nil pass0 (pa_cons (pv 2) (pa_cons (pe_op op_addU pe_int (pe_call (ok_law_pick T) (hr.mono (by decide)) (by rfl) T.g_law_pick T.F_law_pick.kp T.b_law_pick .nil pass0 (pa_cons (pv 0) (pa_cons (pe_op op_sub (pv 1) pe_int) pa_nil)))) pa_nil))))
        (pss_one (ps_ret (pe_op op_addU (pv 4) (pe_tup (pa_cons (pe_tup (pa_cons (pv 6) (pa_cons (pe_ix ix_seq (pv 5) pe_int (fun _ _ => rfl)) (pa_cons (pe_ix ix_seq (pv 5) pe_int (fun _ _ => rfl)) (pa_cons (pe_call (ok_law_say T) hr (by rfl) T.g_law_say T.F_law_say.kp T.b_law_say .nil pass0 (pa_cons (pv 0) (pa_cons pe_int pa_nil))) pa_nil))))) pa_nil))))))))), ?_⟩
    obtain ⟨u1a, u1⟩ := numf_lt (k := k) (d := 1) (by decide) (by decide)
    obtain ⟨u2a, u2⟩ := numf_lt (k := k) (d := 2) (by decide) (by decide)
    walk_at "rd"
    refine ⟨k, 1, rfl, by decide, by decide, ?_⟩
    obtain ⟨w1, hw1⟩ : ∃ x, numf k 1 = x := ⟨_, rfl⟩
    obtain ⟨w2, hw2⟩ : ∃ x, numf k 2 = x := ⟨_, rfl⟩
    rw [hw1] at u1 ⊢
    rw [hw2] at u2
    walk_at "rd"
    refine r_small nsz fun p1 n1 => ?_
    obtain ⟨H1, k1, e1, s1⟩ := nS K (a := 0) (b := 0) (i := 0) (j := 0) n1 rfl rfl
    rw [← k1]
    walk_at "rd"
    refine r_small nsz fun p2 n2 => ?_
    obtain ⟨H2, k2, e2, s2⟩ := nS K (a := 0) (b := 1) (i := 0) (j := 1) n2 rfl rfl
    rw [← k2]
    have D02 := Dr2.ex bx (e1.trans e2)
    walk_at "rd"
    refine ⟨b, h, 2, rfl, D02.st, by decide, by decide, fun t1 H3 t10 t11 D3 => ?_⟩
    have y3 := dr2_tk D02.st D3
    have D03 := D02.trans D3
    walk_at "rd"
    refine r_small nsz fun p4 n4 => ?_
    obtain ⟨H4, k4, e4, h4⟩ := nL (.tup [.int (w1 : Nat), .ref p1, .ref p2, .str t1]) n4
    rw [← k4]
    have b4 : BiV K H4 (.ref p4) ⟨w1, (0, 0), (0, 1), t1⟩ := ⟨p4, .ref p1, .ref p2, rfl, .inl h4, imm (R := SgV K) ((Tk.ex e2).trans (y3.trans (.ex e4))) s1, imm (R := SgV K) (y3.trans (.ex e4)) s2⟩
    walk_at "rd"
    refine r_small nsz fun p5 n5 => ?_
    obtain ⟨H5, k5, e5, s5⟩ := nS K (a := 0) (b := 0) (i := 0) (j := 0) n5 rfl rfl
    rw [← k5]
    walk_at "rd"
    refine r_small nsz fun p6 n6 => ?_
    obtain ⟨H6, k6, e6, s6⟩ := nS K (a := 0) (b := 1) (i := 0) (j := 1) n6 rfl rfl
    rw [← k6]
    walk_at "rd"
    refine r_small nsz fun p7 n7 => ?_
    obtain ⟨H7, k7, e7, h7⟩ := nL (.tup [.int 0, .ref p5, .ref p6, .str ""]) n7
    rw [← k7]
    have b7 : BiV K H7 (.ref p7) ⟨0, (0, 0), (0, 1), ""⟩ := ⟨p7, .ref p5, .ref p6, rfl, .inl h7, imm (R := SgV K) (.ex (e6.trans e7)) s5, imm (R := SgV K) (.ex e7) s6⟩
    have e47 := (e5.trans e6).trans e7
    walk_at "rd"
    refine ⟨k, 2, rfl, by decide, by decide, ?_⟩
    rw [hw2]
    walk_at "rd"
    refine r_small nsz fun p8 n8 => ?_
    obtain ⟨H8, k8, e8, s8⟩ := nS K (a := 0) (b := 0) (i := 0) (j := 0) n8 rfl rfl
    rw [← k8]
    walk_at "rd"
    refine r_small nsz fun p9 n9 => ?_
    obtain ⟨H9, k9, e9, s9⟩ := nS K (a := 0) (b := 1) (i := 0) (j := 1) n9 rfl rfl
    rw [← k9]
    have e49 := (e47.trans e8).trans e9
    have D09 := D03.then (e4.trans e49)
    walk_at "rd"
    refine ⟨b, h, 2, rfl, D09.st, by decide, by decide, fun t2 H10 t20 t21 D10 => ?_⟩
    have y10 := dr2_tk D09.st D10
    have D010 := D09.trans D10
    walk_at "rd"
    refine r_small nsz fun p11 n11 => ?_
    obtain ⟨H11, k11, e11, h11⟩ := nL (.tup [.int (w2 : Nat), .ref p8, .ref p9, .str t2]) n11
    rw [← k11]
    have b11 : BiV K H11 (.ref p11) ⟨w2, (0, 0), (0, 1), t2⟩ := ⟨p11, .ref p8, .ref p9, rfl, .inl h11, imm (R := SgV K) ((Tk.ex e9).trans (y10.trans (.ex e11))) s8, imm (R := SgV K) (y10.trans (.ex e11)) s9⟩
    have y411 : Tk H4 H11 := (Tk.ex e49).trans (y10.trans (.ex e11))
    have b4' := imm (R := BiV K) y411 b4
    have b7' := imm (R := BiV K) ((Tk.ex (e8.trans e9)).trans (y10.trans (.ex e11))) b7
    walk_at "rd"
    refine r_small nsz fun p12 n12 => ?_
    obtain ⟨H12, k12, e12, w12⟩ := nT (R := BiV K) K n12 (.cons b7' (.cons b4' (.cons b11 .nil)))
    rw [← k12]
    have b12 := imm (R := BiV K) (.ex e12) b4'
    have D012 := D010.then (e11.trans e12)
    clear b4 b7 b4' b7' b11 s1 s2 s5 s6 s8 s9 h4 h7 h11 y411 y10 y3 D010 D09 D03 D02 k1 k2 k4 k5 k6 k7 k8 k9 k11 k12 e1 e2 e4 e5 e6 e7 e8 e9 e11 e12 e47 e49 D3 D10 n1 n2 n4 n5 n6 n7 n8 n9 n11 n12
    walk_at "rd"
    refine r_biT b12 ?_
    walk_at "rd"
    refine r_lenS (by rw [sizeLine_eq]; show t1.length ≤ _; omega) ?_
    show (fun _ => _) _
    walk_at "rd"
    refine r_small nsz fun p13 n13 => ?_
    obtain ⟨H13, k13, e13, s13⟩ := nS K (a := 1) (b := ((t1.length : Nat) : Int) - 1) (i := 1) (j := t1.length - 1) n13 rfl (by omega)
    rw [← k13]
    walk_at "rd"
    refine r_small nsz fun p14 n14 => ?_
    obtain ⟨H14, k14, e14, s14⟩ := nS K (a := 0) (b := 1) (i := 0) (j := 1) n14 rfl rfl
    rw [← k14]
    walk_at "rd"
    refine r_small nsz fun p15 n15 => ?_
    obtain ⟨H15, k15, e15, h15⟩ := nL (.lst [.ref p13, .ref p14]) n15
    rw [← k15]
    walk_at "rd"
    refine r_small nsz fun p16 n16 => ?_
    obtain ⟨H16, k16, e16, s16⟩ := nS K (a := 0) (b := 0) (i := 0) (j := 0) n16 rfl rfl
    rw [← k16]
    walk_at "rd"
    refine r_small nsz fun p17 n17 => ?_
    obtain ⟨H17, k17, e17, s17⟩ := nS K (a := 1) (b := 0) (i := 1) (j := 0) n17 rfl rfl
    rw [← k17]
    walk_at "rd"
    refine r_small nsz fun p18 n18 => ?_
    obtain ⟨H18, k18, e18, h18⟩ := nL (.lst [.ref p16, .ref p17]) n18
    rw [← k18]
    walk_at "rd"
    refine r_small nsz fun p19 n19 => ?_
    obtain ⟨H19, k19, e19, h19⟩ := nL (.lst [.ref p15, .ref p18]) n19
    rw [← k19]
    have e1214 := e13.trans e14
    have e1219 := ((((e1214.trans e15).trans e16).trans e17).trans e18).trans e19
    have D019 := D012.then e1219
    have f15 : H p15 = none := (D012.then e1214).fresh n15
    have f18 : H p18 = none := (D012.then (((e1214.trans e15).trans e16).trans e17)).fresh n18
    have f19 : H p19 = none := (D012.then ((((e1214.trans e15).trans e16).trans e17).trans e18)).fresh n19
    walk_at "rd"
    refine ⟨b, h, 2, rfl, D019.st, by decide, by decide, fun x H20 x0 x1 D20 => ?_⟩
    have y20 := dr2_tk D019.st D20
    have D020 := D019.trans D20
    walk_at "rd"
    refine r_bool ?_
    obtain ⟨pe, hpe, ve, xl, xr, hve, sl, sr, hlr⟩ : ∃ (pe : Addr) (_ : atI [V.ref p15, V.ref p18] (if decide (V.int x = V.int 0) = true then 1 else 0) = some (.ref pe)) (ve : List V) (xl xr : Sg), (pe ≠ b ∧ pe ≠ h ∧ H20 pe = some (.lst ve)) ∧ (∃ v1 v2, ve = [v1, v2] ∧ SgV K H20 v1 xl ∧ SgV K H20 v2 xr) ∧ True ∧ ((xl = (1, t1.length - 1) ∧ xr = (0, 1)) ∨ (xl = (0, 0) ∧ xr = (1, 0))) := by
      by_cases c : V.int x = V.int 0
      · rw [decide_eq_true c]
        exact ⟨p18, rfl, _, (0, 0), (1, 0), ⟨bx.nb f18, bx.nh f18, D20.hh _ _ (bx.nb f18) (bx.nh f18) (e19 _ _ h18)⟩, ⟨_, _, rfl, imm (R := SgV K) ((Tk.ex ((e17.trans e18).trans e19)).trans y20) s16, imm (R := SgV K) ((Tk.ex (e18.trans e19)).trans y20) s17⟩, trivial, .inr ⟨rfl, rfl⟩⟩
      · rw [decide_eq_false c]
        exact ⟨p15, rfl, _, (1, t1.length - 1), (0, 1), ⟨bx.nb f15, bx.nh f15, D20.hh _ _ (bx.nb f15) (bx.nh f15) ((((e16.trans e17).trans e18).trans e19) _ _ h15)⟩, ⟨_, _, rfl, imm (R := SgV K) ((Tk.ex (((((e14.trans e15).trans e16).trans e17).trans e18).trans e19)).trans y20) s13, imm (R := SgV K) ((Tk.ex ((((e15.trans e16).trans e17).trans e18).trans e19)).trans y20) s14⟩, trivial, .inl ⟨rfl, rfl⟩⟩
    obtain ⟨peb, peh, hve⟩ := hve
    obtain ⟨v1, v2, rfl, sv1, sv2⟩ := sl
    refine r_ixL (sqL (D20.hh _ _ (bx.nb f19) (bx.nh f19) h19)) hpe ?_
    have w20 := imm (R := WdV K) ((Tk.ex e1219).trans y20) w12
    clear w12 s13 s14 s16 s17 h15 h18 h19 D019 D012 e1219 e1214 b12
    walk_at "rd"
    refine ⟨b, h, _, rfl, D020.st, by omega, by omega, fun z H21 z0 z1 D21 => ?_⟩
    have D021 := D020.trans D21
    walk_at "rd"
    rw [show (2 : Int) + z = ((2 + z.toNat : Nat) : Int) by omega]
    refine ⟨k, _, rfl, by omega, by omega, ?_⟩
    obtain ⟨u3a, u3⟩ := numf_lt (k := k) (d := 2 + z.toNat) (by omega) (by omega)
    obtain ⟨w3, hw3⟩ : ∃ x, numf k (2 + z.toNat) = x := ⟨_, rfl⟩
    rw [hw3] at u3 ⊢
    have hve1 := D21.hh _ _ peb peh hve
    have y21 := dr2_tk D020.st D21
    walk_at "rd"
    refine r_ixL (sqL hve1) (atI_nat (j := 0) rfl) ?_
    walk_at "rd"
    refine r_ixL (sqL hve1) (atI_nat (j := 1) rfl) ?_
    walk_at "rd"
    refine ⟨b, h, 2, rfl, D021.st, by decide, by decide, fun t3 H22 t30 t31 D22 => ?_⟩
    have y22 := y21.trans (dr2_tk D021.st D22)
    walk_at "rd"
    refine r_small nsz fun p23 n23 => ?_
    obtain ⟨H23, k23, e23, h23⟩ := nL (.tup [.int (w3 : Nat), v1, v2, .str t3]) n23
    rw [← k23]
    have b23 : BiV K H23 (.ref p23) ⟨w3, xl, xr, t3⟩ := ⟨p23, v1, v2, rfl, .inl h23, imm (R := SgV K) (y22.trans (.ex e23)) sv1, imm (R := SgV K) (y22.trans (.ex e23)) sv2⟩
    walk_at "rd"
    refine r_small nsz fun p24 n24 => ?_
    obtain ⟨H24, k24, e24, w24⟩ := nT (R := BiV K) K n24 (.cons b23 .nil)
    rw [← k24]
    walk_at "rd"
    refine r_catTV (imm (R := WdV K) (y22.trans (.ex (e23.trans e24))) w20) w24 (by simp) fun wv H25 e25 w25 => ?_
    have l1 : t1.length ≤ 2 := by omega
    have l2 : t2.length ≤ 2 := by omega
    have l3 : t3.length ≤ 2 := by omega
    refine q wv H25 _ ((D021.trans D22).then ((e23.trans e24).trans e25)) w25 (hinge_gw t10 (by omega) t20 (by omega) t30 (by omega) u1 u2 u3 hlr) rfl (fun y hy => ?_) fun c y c0 hc => ?_
    rotate_left
    · have lc : c < 4 := (List.getElem?_eq_some_iff.mp hc).1
      have cc : c = 1 ∨ c = 2 ∨ c = 3 := by omega
      rcases cc with rfl | rfl | rfl
      · cases hc; exact ⟨1, by decide, by decide, hw1.symm⟩
      · cases hc; exact ⟨2, by decide, by decide, hw2.symm⟩
      · cases hc; exact ⟨2 + z.toNat, by omega, by omega, hw3.symm⟩
    simp only [List.cons_append, List.nil_append, List.mem_cons, List.not_mem_nil, or_false] at hy
    rcases hy with rfl | rfl | rfl | rfl
    · exact Nat.zero_le _
    · exact (by omega : t1.length ≤ 3)
    · exact (by omega : t2.length ≤ 3)
    · exact (by omega : t3.length ≤ 3)
end
end K23

namespace K23
open PySem PySem.Spec PyProof.Rows L2 Dk Tl
/-- one step of a reading -/
local macro_rules | `(tactic| walk_at "rd1") => `(tactic| first
  | ((with_reducible refine r_var (v := ?rv) ?rh ?_); (case rh => rfl))
  | with_reducible refine r_c ?_
  | with_reducible refine r_seq ?_
  | with_reducible refine r_asg ?_
  | with_reducible refine r_par ?_
  | with_reducible refine r_gname ?_
  | with_reducible refine r_op ?_
  | with_reducible refine r_forLo ?_
  | with_reducible refine r_forTo ?_
  | with_reducible refine r_forSo ?_
  | with_reducible refine r_forRo ?_
  | with_reducible refine r_forRvo ?_
  | with_reducible refine r_forZo ?_
  | with_reducible refine r_revS ?_
  | with_reducible refine r_lcRo ?_
  | with_reducible refine r_lcLo ?_
  | with_reducible refine r_yes ?_
  | with_reducible refine r_callK0 ?_
  | with_reducible refine r_break ?_
  | with_reducible refine r_forR2o ?_
  | with_reducible refine r_forEo ?_
  | with_reducible refine r_forESo ?_
  | with_reducible refine r_xfo ?_
  | with_reducible refine r_noP ?_
  | with_reducible refine r_part ?_
  | with_reducible refine r_pI ?_
  | with_reducible refine r_gcons ?_
  | with_reducible refine r_gnil ?_
  | with_reducible refine r_mkO ?_
  | with_reducible refine r_un ?_
  | with_reducible refine r_addI ?_
  | with_reducible refine r_I0 ?_
  | with_reducible refine r_U ?_
  | with_reducible refine r_cons ?_
  | with_reducible refine r_nil ?_
  | with_reducible refine r_CB ?_
  | with_reducible refine r_call ?_
  | with_reducible refine r_callS ?_
  | with_reducible refine r_int ?_
  | with_reducible refine r_max ?_
  | with_reducible refine r_min ?_
  | with_reducible refine r_test ?_
  | with_reducible refine r_B ?_
  | with_reducible refine r_blv ?_
  | with_reducible refine r_and ?_
  | with_reducible refine r_or ?_
  | with_reducible refine r_not ?_
  | with_reducible refine r_andV ?_
  | with_reducible refine r_orV ?_
  | with_reducible refine r_notV ?_
  | with_reducible refine r_ifE ?_
  | with_reducible refine r_ifS ?_
  | with_reducible refine r_ret ?_
  | with_reducible refine r_retN ?_
  | with_reducible refine r_drop ?_
  | with_reducible refine r_next ?_
  | with_reducible refine r_sl ?_
  | with_reducible refine r_gsub ?_
  | with_reducible refine r_bm ?_
  | with_reducible refine r_tup ?_
  | with_reducible refine r_lst ?_
  | with_reducible refine r_isN ?_
  | with_reducible refine r_notN ?_
  | with_reducible refine r_chain ?_
  | with_reducible refine r_lcEio ?_
  | with_reducible refine r_forEi ?_
  | with_reducible refine r_lcTo ?_
  | with_reducible refine r_m1 ?_
  | with_reducible refine r_dget ?_
  | with_reducible refine r_din ?_
  | with_reducible refine r_dnotin ?_
  | with_reducible refine r_starC ?_
  | with_reducible refine r_callKS ?_
  | with_reducible refine r_itt ?_
  | with_reducible refine r_iff ?_
  | with_reducible refine r_ittN ?_
  | with_reducible refine r_iffN ?_
  | ((with_reducible refine r_ittD ?rh ?_); (case rh => rfl))
  | ((with_reducible refine r_iffD ?rh ?_); (case rh => rfl))
  | ((with_reducible refine r_modP ?rh ?_); (case rh => decide))
  | ((with_reducible refine r_eq ?rh ?_); (case rh => rfl))
  | ((with_reducible refine r_eqP ?rh ?_); (case rh => rfl))
  | ((with_reducible refine r_ne ?rh ?_); (case rh => rfl)))
local macro_rules | `(tactic| walk_at "rd") => `(tactic| repeat walk_at "rd1")
local macro_rules | `(tactic| walk_at "isi") => `(tactic| first | refine r_isi (b := true) (by assumption) (by decide +kernel) ?_ | refine r_isi (b := false) (by assumption) (by decide +kernel) ?_)
local macro_rules | `(tactic| walk_at "rs1") => `(tactic| first
  | with_reducible refine r_seq ?_
  | with_reducible refine r_asg ?_
  | with_reducible refine r_gname ?_
  | with_reducible refine r_ret ?_)
local macro_rules | `(tactic| walk_at "rs") => `(tactic| repeat walk_at "rs1")

open Wd
section
variable {P : Program} {w : World} {K : PySem.W.Frag} {mg : Str → Option Value} {base : Heap}
/-- the lots as they are drawn -/
structure Lg (k d : Nat) (lots : Lots) : Prop where
  lot : ∀ e ∈ lots, ∃ f, 1 ≤ f ∧ f < d ∧ e.1 = numf k f
  nd : (lots.map Prod.fst).Nodup
  few : lots.length < d
theorem Lg.one {k : Nat} : Lg k 1 [] := ⟨fun e he => absurd he List.not_mem_nil, List.nodup_nil, by decide⟩
theorem Lg.stay {k d : Nat} {lots : Lots} (l : Lg k d lots) : Lg k (d + 1) lots := ⟨fun e he => by
  obtain ⟨f, f1, f2, f3⟩ := l.lot e he
  exact ⟨f, f1, by omega, f3⟩, l.nd, by have := l.few; omega⟩
theorem Lg.more {k d : Nat} {lots : Lots} (l : Lg k d lots) (d1 : 1 ≤ d) (d7 : d ≤ 7) (g : List Sg) : Lg k (d + 1) (lots ++ [(numf k d, g)]) where
  lot := fun e he => by
    rcases List.mem_append.mp he with he | he
    · obtain ⟨f, f1, f2, f3⟩ := l.lot e he
      exact ⟨f, f1, by omega, f3⟩
    · rw [List.mem_singleton.mp he]
      exact ⟨d, d1, by omega, rfl⟩
  nd := by
    rw [List.map_append, List.nodup_append]
    refine ⟨l.nd, by simp, fun x hx y hy e => ?_⟩
    have hy : y = numf k d := List.mem_singleton.mp hy
    obtain ⟨e0, he0, rfl⟩ := List.mem_map.mp hx
    obtain ⟨f, f1, f2, f3⟩ := l.lot e0 he0
    have := numf_inj f1 (by omega) d1 d7 (f3.symm.trans (e.trans hy))
    omega
  few := by
    rw [List.length_append, List.length_singleton]
    have := l.few
    omega
def spHanded (K : PySem.W.Frag) : Sp := fun vs H Q _ => ∃ (b h : Addr) (k many : Nat), vs = [.ref b, .int (many : Nat), .int (k : Nat)] ∧ Bx H b h ∧ 1 ≤ many ∧ many ≤ 7 ∧
  ∀ p H' W lots ms, Dr2 b h H H' → Ww W lots ms → WwV K b h H' p W lots ms → Q (.ref p) H'
set_option maxHeartbeats 32000000 in
theorem ok_law_handed (T : Txt K mg) : FnOk P w K mg base CX0 4 T.a_law_handed T.d_law_handed ["_law_box", "_law_many", "_law_kind"] (spHanded K) := by
  refine T.F_law_handed.ok sc_law_handed (fun vs H Q E h => ?_) (fun cdv A outer s H vs Q E hr h => ?_)
  · obtain ⟨b, h, k, many, rfl, _⟩ := h
    rfl
  · obtain ⟨b, h, k, many, rfl, bx, many1, many7, q⟩ := h
    refine ⟨_, (pss_cons (ps_set (i := 3) sc_law_handed.nd rfl (Or.inl rfl) (pe_tup (pa_cons (pe_tup (pa_cons pe_int (pa_cons (pe_tup (pa_cons pe_int (pa_cons pe_int pa_nil))) (pa_cons (pe_tup (pa_cons pe_int (pa_cons pe_int pa_nil))) (pa_cons pe_str pa_nil))))) pa_nil)))
        (pss_cons (ps_set (i := 4) sc_law_handed.nd rfl (Or.inl rfl) (pe_call (ok_law_pick T) (hr.mono (by decide)) (by rfl) T.g_law_pick T.F_law_pick.kp T.b_law_pick .nil pass0 (pa_cons (pv 0) (pa_cons pe_int pa_nil))))
        (Evl.pss_cut (ps_if (PW.pt (pw_and (pt_cmpR op_gt (pv 1) pe_int (nomark _)) (pw_and1 (pt_cmpR (op_eqU hr.units) (pe_call (ok_law_pick T) (hr.mono (by decide)) (by rfl) T.g_law_pick T.F_law_pick.kp T.b_law_pick .nil pass0 (pa_cons (pv 0) (pa_cons pe_int pa_nil))) pe_int (nomark _))))) (pss_one (ps_set (i := 3) sc_law_handed.nd rfl (Or.inl rfl) (pe_call (ok_law_hinge T) hr (by rfl) T.g_law_hinge T.F_law_hinge.kp T.b_law_hinge .nil pass0 (pa_cons (pv 0) (pa_cons (pv 1) (pa_cons (pv 2) pa_nil)))))) pss_nil)
        (pss_cons (ps_for PassesOwn.never rfl (pi_range1 (by rfl) T.n_range (pa_cons (pe_ix ix_seq (pe_lst (pa_cons pe_int (pa_cons pe_int (pa_cons pe_int (pa_cons pe_int (pa_cons pe_int (pa_cons pe_int (pa_cons pe_int (pa_cons pe_int pa_nil))))))))) (pe_call (ok_law_pick T) (hr.mono (by decide)) (by rfl) T.g_law_pick T.F_law_pick.kp T.b_law_pick .nil pass0 (pa_cons (pv 0) (pa_cons pe_int pa_nil))) (fun _ _ => rfl)) pa_nil)) (pg_name (i := 5) sc_law_handed.nd rfl (Or.inl rfl)) (pss_cons (ps_set (i := 6) sc_law_handed.nd rfl (Or.inl rfl) (pe_call (ok_law_all T) (hr.mono (by decide)) (by rfl) T.g_law_all T.F_law_all.kp T.b_law_all .nil pass0 (pa_cons (pv 3) pa_nil)))
        (pss_cons (ps_asg (pe_call (ok_law_pair T) hr (by rfl) T.g_law_pair T.F_law_pair.kp T.b_law_pair .nil pass0 (pa_cons (pv 0) (pa_cons (pe_call (ok_law_closed T) (hr.mono (by decide)) (by rfl) T.g_law_closed T.F_law_closed.kp T.b_law_closed .nil pass0 (pa_cons (pv 3) pa_nil)) (pa_cons (pv 4) pa_nil)))) (pg_tup rfl (pgs_cons (pg_name (i := 7) sc_law_handed.nd rfl (Or.inl rfl)) (pgs_cons (pg_name (i := 8) sc_law_handed.nd rfl (Or.inl rfl)) pgs_nil))))
        (pss_cons (ps_set (i := 9) sc_law_handed.nd rfl (Or.inl rfl) (pe_call (ok_law_num T) (hr.mono (by decide)) (by rfl) T.g_law_num T.F_law_num.kp T.b_law_num .nil pass0 (pa_cons (pv 2) (pa_cons (pe_op op_addU pe_int (pe_call (ok_law_pick T) (hr.mono (by decide)) (by rfl) T.g_law_pick T.F_law_pick.kp T.b_law_pick .nil pass0 (pa_cons (pv 0) (pa_cons (pv 1) pa_nil)))) pa_nil))))
        (pss_one (ps_set (i := 3) sc_law_handed.nd rfl (Or.inl rfl) (pe_op op_addU (pv 3) (pe_tup (pa_cons (pe_tup (pa_cons (pv 9) (pa_cons (pe_ix ix_seq (pv 6) (pv 7) (fun _ _ => rfl)) (pa_cons (pe_ix ix_seq (pv 6) (pv 8) (fun _ _ => rfl)) (pa_cons (pe_call (ok_law_say T) (hr.mono (by decide)) (by rfl) T.g_law_say T.F_law_say.kp T.b_law_say .nil pass0 (pa_cons (pv 0) (pa_cons pe_int pa_nil))) pa_nil))))) pa_nil)))))))))
        (pss_cons (ps_set (i := 10) sc_law_handed.nd rfl (Or.inl rfl) (pe_lst pa_nil))
        (pss_cons (ps_for PassesOwn.never rfl (pi_range2 (by rfl) T.n_range (pa_cons pe_int (pa_cons (pe_op op_addU (pv 1) pe_int) pa_nil))) (pg_name (i := 11) sc_law_handed.nd rfl (Or.inl rfl)) (pss_cons (ps_setLc (i := 12) (own := [("_law_mark", 16)]) (g := gName 16) rfl sc_law_handed.nd rfl rfl (sw_true rfl rfl rfl (by decide +kernel)) (pi_list (pe_slice sl_U (pe_call (ok_law_all T) (hr.mono (by decide)) (by rfl) T.g_law_all T.F_law_all.kp T.b_law_all .nil pass0 (pa_cons (pv 3) pa_nil)) (po_some pe_int) po_none)) (blkOk_by (N := N_law_handed) (sc := defScope s_law_handed) (by decide +kernel)) (fun _ _ _ _ _ => pg_name (i := 16) sc_law_handed.nd rfl (Or.inl rfl)) (fun _ _ _ _ _ => (pts_one (pt_cmpR (k_eqU (K := K) rfl hr.units) (pe_call (ok_law_pick T) (hr.mono (by decide)) (by rfl) T.g_law_pick T.F_law_pick.kp T.b_law_pick .nil pass0 (pa_cons (pv 0) (pa_cons pe_int pa_nil))) pe_int (nomark _)))) (fun _ _ _ _ _ => (pv 16)))
        (pss_one (ps_if (PW.pt (pw_and (pt_cmpR op_gt (pe_callB call_lenU (by rfl) T.n_len (by decide +kernel) (pa_cons (pv 12) pa_nil)) pe_int (nomark _)) (pw_and1 (pt_cmpR (op_eqU hr.units) (pe_call (ok_law_pick T) (hr.mono (by decide)) (by rfl) T.g_law_pick T.F_law_pick.kp T.b_law_pick .nil pass0 (pa_cons (pv 0) (pa_cons pe_int pa_nil))) pe_int (nomark _))))) (pss_one (ps_expr (pe_bm PySem.F.plainAttrs_list PySem.F.slot_list_append PySem.F.type_list_append mt_append (pv 10) (pa_cons (pe_lst (pa_cons (pe_call (ok_law_num T) (hr.mono (by decide)) (by rfl) T.g_law_num T.F_law_num.kp T.b_law_num .nil pass0 (pa_cons (pv 2) (pa_cons (pv 11) pa_nil))) (pa_cons (pv 12) pa_nil))) pa_nil)))) pss_nil))))
        (pss_cons (ps_set (i := 13) sc_law_handed.nd rfl (Or.inl rfl) (pe_lst (pa_cons pe_int pa_nil)))
        (pss_cons (ps_for PassesOwn.never rfl (pi_range1 (by rfl) T.n_range (pa_cons pe_int pa_nil)) (pg_name (i := 14) sc_law_handed.nd rfl (Or.inl rfl)) (pss_cons (ps_set (i := 15) sc_law_handed.nd rfl (Or.inl rfl) pe_int)
        (pss_cons (ps_for PassesOwn.never rfl (pi_range2 (by rfl) T.n_range (pa_cons pe_int (pa_cons (pe_op op_addU (pv 1) pe_int) pa_nil))) (pg_name (i := 11) sc_law_handed.nd rfl (Or.inl rfl)) (pss_one (ps_set (i := 15) sc_law_handed.nd rfl (Or.inl rfl) (pe_op op_or (pv 15) (pe_op op_shl (pe_call (ok_law_pick T) (hr.mono (by decide)) (by rfl) T.g_law_pick T.F_law_pick.kp T.b_law_pick .nil pass0 (pa_cons (pv 0) (pa_cons pe_int pa_nil))) (pe_call (ok_law_num T) (hr.mono (by decide)) (by rfl) T.g_law_num T.F_law_num.kp T.b_law_num .nil pass0 (pa_cons (pv 2) (pa_cons (pv 11) pa_nil))))))))
        (pss_one (ps_expr (pe_bm PySem.F.plainAttrs_list PySem.F.slot_list_append PySem.F.type_list_append mt_append (pv 13) (pa_cons (pv 15) pa_nil)))))))
        (pss_one (ps_ret (pe_tup (pa_cons (pv 3) (pa_cons (pv 10) (pa_cons (pv 13) pa_nil)))))))))))))), ?_⟩
    walk_at "rd"
    refine r_small nsz fun p1 n1 => ?_
    obtain ⟨H1, k1, e1, s1⟩ := nS K (a := 0) (b := 0) (i := 0) (j := 0) n1 rfl rfl
    rw [← k1]
    walk_at "rd"
    refine r_small nsz fun p2 n2 => ?_
    obtain ⟨H2, k2, e2, s2⟩ := nS K (a := 0) (b := 1) (i := 0) (j := 1) n2 rfl rfl
    rw [← k2]
    walk_at "rd"
    refine r_small nsz fun p3 n3 => ?_
    obtain ⟨H3, k3, e3, h3⟩ := nL (.tup [.int 0, .ref p1, .ref p2, .str ""]) n3
    rw [← k3]
    have bi0 : BiV K H3 (.ref p3) ⟨0, (0, 0), (0, 1), ""⟩ := ⟨p3, .ref p1, .ref p2, rfl, .inl h3, imm (R := SgV K) (.ex (e2.trans e3)) s1, imm (R := SgV K) (.ex e3) s2⟩
    walk_at "rd"
    refine r_small nsz fun p4 n4 => ?_
    obtain ⟨H4, k4, e4, wd4⟩ := nT (R := BiV K) K n4 (.cons bi0 .nil)
    rw [← k4]
    have D04 := Dr2.ex bx (((e1.trans e2).trans e3).trans e4)
    clear k1 k2 k3 k4 s1 s2 h3 bi0
    walk_at "rd"
    refine ⟨b, h, 5, rfl, D04.st, by decide, by decide, fun m H5 m0 m1 D5 => ?_⟩
    have wd5 := imm (R := WdV K) (dr2_tk D04.st D5) wd4
    have D05 := D04.trans D5
    clear wd4 D04 D5
    walk_at "rd"
    refine ⟨fun σ H' => ∃ wv W, Dr2 b h H H' ∧ WdV K H' wv W ∧ Gw W ∧ W.length ≤ 4 ∧ (∀ x ∈ W, x.t.length ≤ 3) ∧ (∀ c b, 0 < c → W[c]? = some b → ∃ e, 1 ≤ e ∧ e ≤ 7 ∧ b.who = numf k e) ∧ σ = [some (.ref b), some (.int (many : Nat)), some (.int (k : Nat)), some wv, some (.int m), none, none, none, none, none, none, none, none, none, none, none, none], ?_, ?_⟩
    · have stay : ∀ {Ha}, Dr2 b h H5 Ha → ∃ wv W, Dr2 b h H Ha ∧ WdV K Ha wv W ∧ Gw W ∧ W.length ≤ 4 ∧ (∀ x ∈ W, x.t.length ≤ 3) ∧ (∀ c b, 0 < c → W[c]? = some b → ∃ e, 1 ≤ e ∧ e ≤ 7 ∧ b.who = numf k e) ∧ ([some (V.ref b), some (.int (many : Nat)), some (.int (k : Nat)), some (.ref p4), some (.int m), none, none, none, none, none, none, none, none, none, none, none, none] : L2.St) = [some (.ref b), some (.int (many : Nat)), some (.int (k : Nat)), some wv, some (.int m), none, none, none, none, none, none, none, none, none, none, none, none] := fun {Ha} Da =>
        ⟨_, _, D05.trans Da, imm (R := WdV K) (dr2_tk D05.st Da) wd5, gw_one, (show 1 ≤ 4 by decide), (fun x hx => by rw [List.mem_singleton.mp hx]; exact Nat.zero_le _), (fun c b c0 hc => by have : c < 1 := (List.getElem?_eq_some_iff.mp hc).1; omega), rfl⟩
      refine r_ifS ?_
      refine any_test (S := fun t H1 => Dr2 b h H5 H1 ∧ (t = true → 1 < many)) (fun QB kk => ?_) (fun t H7 hS => ?_)
      · walk_at "rd"
        refine r_ite (fun h2 => ?_) (fun _ => kk _ _ ⟨Dr2.refl D05.st, fun z => nomatch z⟩)
        walk_at "rd"
        refine ⟨b, h, 3, rfl, D05.st, by decide, by decide, fun x Ha x0 x1 Da => ?_⟩
        walk_at "rd"
        exact kk _ _ ⟨Da, fun _ => by omega⟩
      · obtain ⟨D57, h2⟩ := hS
        refine r_iteB (fun ht => ?_) (fun _ => ?_)
        · have h2 := h2 ht
          walk_at "rd"
          refine ⟨b, h, k, many, rfl, D57.st, by omega, many7, fun v Ha W Da wda gwa la ta wa => ?_⟩
          walk_at "rd"
          exact ⟨v, W, (D05.trans D57).trans Da, wda, gwa, by omega, ta, wa, rfl⟩
        · walk_at "rd"
          exact stay D57
    rintro σ H6 ⟨wv0, W0, D06, wd6, gw6, wl6, wt6, ww6, rfl⟩
    clear D05 wd5
    walk_at "rd"
    refine r_small nsz fun pq n7 => ?_
    obtain ⟨ml, hml⟩ : ∃ ml : List V, ml = [.int 4, .int 5, .int 3, .int 2, .int 1, .int 4, .int 3, .int 0] := ⟨_, rfl⟩
    rw [← hml]
    obtain ⟨H7, k7, e7, h7⟩ := nL (.lst ml) n7
    rw [← k7]
    have D07 := D06.then e7
    have pq0 : H pq = none := D06.fresh n7
    walk_at "rd"
    refine ⟨b, h, 8, rfl, D07.st, by decide, by decide, fun d8 H8 d80 d81 D8 => ?_⟩
    obtain ⟨most, hmost, mo5⟩ : ∃ m : Nat, atI ml d8 = some (.int (m : Nat)) ∧ m ≤ 5 := by
      rw [hml]
      have c : d8 = 0 ∨ d8 = 1 ∨ d8 = 2 ∨ d8 = 3 ∨ d8 = 4 ∨ d8 = 5 ∨ d8 = 6 ∨ d8 = 7 := by omega
      rcases c with rfl | rfl | rfl | rfl | rfl | rfl | rfl | rfl
      · exact ⟨4, rfl, by decide⟩
      · exact ⟨5, rfl, by decide⟩
      · exact ⟨3, rfl, by decide⟩
      · exact ⟨2, rfl, by decide⟩
      · exact ⟨1, rfl, by decide⟩
      · exact ⟨4, rfl, by decide⟩
      · exact ⟨3, rfl, by decide⟩
      · exact ⟨0, rfl, by decide⟩
    walk_at "rd"
    refine r_ixL (sqL (D8.hh _ _ (bx.nb pq0) (bx.nh pq0) h7)) hmost ?_
    have D08 := D07.trans D8
    have wd8 := imm (R := WdV K) ((Tk.ex e7).trans (dr2_tk D07.st D8)) wd6
    clear wd6 D06 D07 D8 h7 k7 hmost n7 e7 hml
    walk_at "rd"
    refine l_R (by omega) (by omega) (fun i σ H' => ∃ (wv : V) (W : List Bi) (y5 y6 y7 y8 y9 : Option V), σ = [some (.ref b), some (.int (many : Nat)), some (.int (k : Nat)), some wv, some (.int m), y5, y6, y7, y8, y9, none, none, none, none, none, none, none] ∧ Dr2 b h H H' ∧ WdV K H' wv W ∧ Gw W ∧ W.length ≤ 4 + i ∧ (∀ x ∈ W, x.t.length ≤ 3) ∧ (∀ c b, 0 < c → W[c]? = some b → ∃ e, 1 ≤ e ∧ e ≤ 7 ∧ b.who = numf k e))
      ⟨wv0, W0, none, none, none, none, none, rfl, D08, wd8, gw6, wl6, wt6, ww6⟩ (fun i σ H' hi hW => ?_) (fun σ H9 hW => ?_)
    · obtain ⟨wv, W, y5, y6, y7, y8, y9, rfl, D, wd, gw, wl, wt, wo⟩ := hW
      obtain ⟨pw, xw, rfl, hpw, hxw⟩ := id wd
      walk_at "rd"
      refine ⟨pw, lf W, rf W, Wd.sz W, W.length, H', rfl, Same.refl H', wr_of wd gw, fun pmk G1 H1 mk t1 nmk hmk hms => ?_⟩
      have e1 := t1.same
      have hmk1 : H1 pmk = some (.lst mk) := t1.gh _ _ hmk
      have hms1 : SgL K H1 mk (marks (Wd.sz W) W.length) := p2_imm (.ex t1.gh) hms
      have wd1 := imm (R := WdV K) (.ex e1) wd
      have D01 := D.then e1
      walk_at "rd"
      refine ⟨pw, lf W, rf W, Wd.sz W, W.length, rfl, wr_of wd1 gw, fun ptb H2 U e2 ntb htb tl => ?_⟩
      have D02 := D01.then e2
      have ml := marks_few gw wt
      have ul : U.length ≤ 1000 := by
        rw [tl.1, ← marks_len]
        omega
      have ptb0 : H ptb = none := D01.fresh ntb
      have pmk0 : H pmk = none := D.fresh nmk
      walk_at "rd"
      refine ⟨b, h, ptb, lf W, rf W, Wd.sz W, W.length, U, m, strip H2 b h, rfl, strip_w D02.st, by rw [strip_at (bx.nb ptb0) (bx.nh ptb0)]; exact htb, gw.wv, tl, ul, fun pp G3 H3 x y k3 hpp hx hy hxy => ?_⟩
      have D3 := dr2_of k3
      have D03 := D02.trans D3
      obtain ⟨sx, sy, ox, oy, ex, ey, iff⟩ := tl.bit_lt hx hy
      have hA := iff.mp hxy
      refine r_gtup (sqT (k3.g hpp)) rfl ?_
      walk_at "rd"
      refine ⟨b, h, _, rfl, D03.st, by omega, by omega, fun z H4 z0 z1 D4 => ?_⟩
      walk_at "rd"
      rw [show (1 : Int) + z = ((1 + z.toNat : Nat) : Int) by omega]
      refine ⟨k, _, rfl, by omega, by omega, ?_⟩
      obtain ⟨u3a, u3⟩ := numf_lt (k := k) (d := 1 + z.toNat) (by omega) (by omega)
      obtain ⟨w3, hw3⟩ : ∃ x, numf k (1 + z.toNat) = x := ⟨_, rfl⟩
      rw [hw3] at u3 ⊢
      have D04 := D03.trans D4
      have D24 := D3.trans D4
      have y14 : Tk H1 H4 := (Tk.ex e2).trans (dr2_tk D02.st D24)
      have hmk4 := D24.hh _ _ (bx.nb pmk0) (bx.nh pmk0) (e2 _ _ hmk1)
      have hms4 := p2_imm (R := SgV K) y14 hms1
      have wd4 := imm (R := WdV K) y14 wd1
      have gx := marks_at ox
      rw [ex] at gx
      have gy := marks_at oy
      rw [ey] at gy
      walk_at "rd"
      refine r_ixLV hmk4 hms4 gx fun u1 su1 => ?_
      walk_at "rd"
      refine r_ixLV hmk4 hms4 gy fun u2 su2 => ?_
      walk_at "rd"
      refine ⟨b, h, 3, rfl, D04.st, by decide, by decide, fun t H5 t0 t1 D5 => ?_⟩
      have y45 := dr2_tk D04.st D5
      walk_at "rd"
      refine r_small nsz fun p6 n6 => ?_
      obtain ⟨H6, k6, e6, h6⟩ := nL (.tup [.int (w3 : Nat), u1, u2, .str t]) n6
      rw [← k6]
      have b6 : BiV K H6 (.ref p6) ⟨w3, sx, sy, t⟩ := ⟨p6, u1, u2, rfl, .inl h6, imm (R := SgV K) (y45.trans (.ex e6)) su1, imm (R := SgV K) (y45.trans (.ex e6)) su2⟩
      walk_at "rd"
      refine r_small nsz fun p7 n7 => ?_
      obtain ⟨H7, k7, e7, w7⟩ := nT (R := BiV K) K n7 (.cons b6 .nil)
      rw [← k7]
      walk_at "rd"
      refine r_catTV (imm (R := WdV K) (y45.trans (.ex (e6.trans e7))) wd4) w7 (by simp; omega) fun wv8 H8 e8 w8 => ?_
      refine ⟨wv8, _, _, _, _, _, _, rfl, (D04.trans D5).then ((e6.trans e7).trans e8), w8, gw_snoc gw ox oy hA t0 (by show t.length ≤ 12; omega) u3 (by omega), by rw [len_snoc]; omega, (fun x hx => ?_), fun c b' c0 hc => ?_⟩
      rotate_left
      · have lc := (List.getElem?_eq_some_iff.mp hc).1
        rw [len_snoc] at lc
        rcases Nat.lt_or_ge c W.length with g | g
        · rw [snoc_old g] at hc
          exact wo c b' c0 hc
        · rw [show c = W.length by omega, snoc_new] at hc
          rw [← Option.some.inj hc]
          exact ⟨1 + z.toNat, by omega, by omega, hw3.symm⟩
      rcases List.mem_append.mp hx with hx | hx
      · exact wt x hx
      · rw [List.mem_singleton.mp hx]
        show t.length ≤ 3
        omega
    obtain ⟨wv, W, y5, y6, y7, y8, y9, rfl, D9, wd9, gw, wl, wt, wo⟩ := hW
    have mf := marks_few gw wt
    have mk9 : (marks (Wd.sz W) W.length).length ≤ 99 := by
      have : 3 * (W.length - 1) ≤ 3 * 8 := Nat.mul_le_mul_left _ (by omega)
      omega
    clear D08 wd8 gw6 wl6 wt6
    have m90 : (marks (Wd.sz W) W.length).length ≤ 90 := by
      have : 3 * (W.length - 1) ≤ 3 * 8 := Nat.mul_le_mul_left _ (by omega)
      omega
    walk_at "rd"
    refine r_small nsz fun pl n10 => ?_
    obtain ⟨H10, k10, e10, h10⟩ := nL (.lst []) n10
    rw [← k10]
    have pl0 : H pl = none := D9.fresh n10
    have plb := bx.nb pl0
    have plh := bx.nh pl0
    obtain ⟨Fi, hFi⟩ : ∃ Fi : Addr → Prop, Fi = fun a => a ≠ b ∧ a ≠ h ∧ a ≠ pl := ⟨_, rfl⟩
    have kpl : ∀ {Ha Hb : Hp}, Dr2 b h Ha Hb → Bx Ha b h → ∀ {ys : List V} {lo : Lots}, P2 (LtE Fi K Ha) ys lo → P2 (LtE Fi K Hb) ys lo := by
      intro Ha Hb dd st ys lo z
      exact z.imp fun _ _ z => z.keep (fun a o f e => by rw [hFi] at f; exact dd.hh a o f.1 f.2.1 e) (dr2_tk st dd)
    have D010 := D9.then e10
    have wd10 := imm (R := WdV K) (.ex e10) wd9
    clear wd9 D9 k10
    walk_at "rd"
    rw [show ((many : Nat) : Int) + 1 = ((many + 1 : Nat) : Int) from rfl]
    refine l_R1n (by omega) (by omega) (fun d σ H' => ∃ (lots : Lots) (xs : List V) (y11 y12 y16 : Option V), σ = [some (.ref b), some (.int (many : Nat)), some (.int (k : Nat)), some wv, some (.int m), y5, y6, y7, y8, y9, some (.ref pl), y11, y12, none, none, none, y16] ∧ Dr2 b h H H' ∧ WdV K H' wv W ∧ H' pl = some (.lst xs) ∧ P2 (LtE Fi K H') xs lots ∧ Lg k d lots)
      ⟨[], [], none, none, none, rfl, D010, wd10, h10, .nil, Lg.one⟩ (fun d σ H' d1 d2 hW => ?_) (fun σ H11 hW => ?_)
    · obtain ⟨lots, xs, y11, y12, y16, rfl, D, wd, hpl, hxs, lg⟩ := hW
      have xl := hxs.len
      have few := lg.few
      obtain ⟨pw, xw, rfl, hpw, hxw⟩ := id wd
      walk_at "rd"
      refine ⟨pw, lf W, rf W, Wd.sz W, W.length, H', rfl, Same.refl H', wr_of wd gw, fun pmk G1 H1 mk t1 nmk hmk hms => ?_⟩
      have e1 := t1.same
      have hmk1 : H1 pmk = some (.lst mk) := t1.gh _ _ hmk
      have hms1 : SgL K H1 mk (marks (Wd.sz W) W.length) := p2_imm (.ex t1.gh) hms
      have D01 := D.then e1
      walk_at "rd"
      rw [show (2 : Int) = ((2 : Nat) : Int) from rfl]
      refine r_slL (sqL hmk1) fun pg n2 => ?_
      rw [cutV_fr]
      obtain ⟨H2, k2, e2, h2⟩ := nL (.lst (mk.drop 2)) n2
      rw [← k2]
      have D02 := D01.then e2
      have hms2 : SgL K H2 (mk.drop 2) ((marks (Wd.sz W) W.length).drop 2) := p2_imm (R := SgV K) (.ex e2) (hms1.drop 2)
      have pg0 : H pg = none := D01.fresh n2
      have wd2 := imm (R := WdV K) (.ex (e1.trans e2)) wd
      have hpl2 := (e1.trans e2) _ _ hpl
      have hxs2 : P2 (LtE Fi K H2) xs lots := hxs.imp fun _ _ z => z.keep (fun a o _ e => (e1.trans e2) _ _ e) (.ex (e1.trans e2))
      have l2 := hms2.len
      have l3 : ((marks (Wd.sz W) W.length).drop 2).length ≤ 99 := by rw [List.length_drop]; omega
      walk_at "rd"
      refine l_lcL (sqL h2) (fun D i H' => Dr2 b h H2 H' ∧ ∃ acc gs, H' D = some (.lst acc) ∧ SgL K H' acc gs ∧ acc.length ≤ i) (fun D hD => ⟨(Dr2.refl D02.st).new hD, [], [], upd_same, .nil, Nat.le_refl _⟩) (fun D i H' hW => sqL (hW.1.hh _ _ (bx.nb pg0) (bx.nh pg0) h2)) (fun D i x H' hD hi hW => ?_) (fun D H' hD hW => ?_)
      · obtain ⟨Dc, acc, gs, ha, hA, al⟩ := hW
        obtain ⟨s, hs, sx⟩ := hms2.get hi
        have il := (List.getElem?_eq_some_iff.mp hi).1
        have wc := D02.trans Dc
        have nb := D02.st.nb hD
        have nh := D02.st.nh hD
        walk_at "rd"
        refine ⟨rfl, ?_⟩
        walk_at "rd"
        refine ⟨b, h, 5, rfl, wc.st, by decide, by decide, fun z H4 z0 z1 D4 => ?_⟩
        walk_at "rd"
        have t4 := dr2_tk wc.st D4
        have ha4 := D4.hh _ _ nb nh ha
        have t24 := (dr2_tk D02.st Dc).trans t4
        by_cases c : V.int z = V.int 0
        · rw [decide_eq_true c]
          walk_at "rd"
          have tp := Tk.put (o := .lst (acc ++ [x])) ha4
          refine ⟨acc, ha4, Nat.lt_of_le_of_lt (show acc.length ≤ 1000 by omega) (by decide), (Dc.trans D4).mut hD nb nh, acc ++ [x], gs ++ [s], upd_same, ?_, by rw [List.length_append, List.length_singleton]; omega⟩
          exact (p2_imm (R := SgV K) tp (p2_imm (R := SgV K) t4 hA)).snoc (imm (R := SgV K) tp (imm (R := SgV K) t24 sx))
        · rw [decide_eq_false c]
          exact ⟨Dc.trans D4, acc, gs, ha4, p2_imm (R := SgV K) t4 hA, by omega⟩
      obtain ⟨Dc, acc, gs, ha, hA, al⟩ := hW
      have D03 := D02.trans Dc
      have wd3 := imm (R := WdV K) (dr2_tk D02.st Dc) wd2
      have hpl3 := Dc.hh _ _ plb plh hpl2
      have hxs3 := kpl Dc D02.st hxs2
      have Dn : H D = none := D02.fresh hD
      have Db := bx.nb Dn
      have Dh := bx.nh Dn
      have Dl : D ≠ pl := fun z => by rw [z, hpl2] at hD; cases hD
      clear wd2 hpl2 hxs2 hms2 h2
      walk_at "rs"
      · with_reducible refine r_ifS ?_
        refine any_test (S := fun t H1 => Dr2 b h H' H1) (fun QB kk => ?_) (fun t J D1 => ?_)
        · walk_at "rd"
          refine r_lenL (sqL ha) ?_
          walk_at "rd"
          refine r_ite (fun h2 => ?_) (fun _ => kk _ _ (Dr2.refl D03.st))
          walk_at "rd"
          refine ⟨b, h, 2, rfl, D03.st, by decide, by decide, fun x Ha x0 x1 Da => ?_⟩
          walk_at "rd"
          exact kk _ _ Da
        · have D0J := D03.trans D1
          have tJ := dr2_tk D03.st D1
          have wdJ := imm (R := WdV K) tJ wd3
          have hplJ := D1.hh _ _ plb plh hpl3
          have hxsJ := kpl D1 D03.st hxs3
          have haJ := D1.hh _ _ Db Dh ha
          have hAJ := p2_imm (R := SgV K) tJ hA
          refine r_iteB (fun _ => ?_) (fun _ => ?_)
          · walk_at "rd"
            refine r_tyL (sqL hplJ) ?_
            walk_at "rd"
            refine ⟨k, d, rfl, d1, by omega, ?_⟩
            walk_at "rd"
            refine r_small nsz fun q2 m2 => ?_
            obtain ⟨J2, j2, f2, g2⟩ := nL (.lst [.int (numf k d : Nat), .ref D]) m2
            rw [← j2]
            have hpl2 := f2 _ _ hplJ
            walk_at "rd"
            refine r_app hpl2 (Nat.lt_of_le_of_lt (show xs.length ≤ 1000 by omega) (by decide)) ?_
            have tp := Tk.put (o := .lst (xs ++ [.ref q2])) hpl2
            have q20 : H q2 = none := D0J.fresh m2
            have q2l : q2 ≠ pl := fun z => by rw [z, hplJ] at m2; cases m2
            refine ⟨_, _, _, _, _, rfl, (D0J.then f2).mut pl0 plb plh, imm (R := WdV K) ((Tk.ex f2).trans tp) wdJ, upd_same, ?_, lg.more d1 (by omega) gs⟩
            refine (hxsJ.imp fun _ _ z => z.keep (fun a o f e => ?_) ((Tk.ex f2).trans tp)).snoc ⟨q2, D, acc, rfl, ?_, ?_, ?_, ?_, p2_imm (R := SgV K) ((Tk.ex f2).trans tp) hAJ⟩
            · rw [hFi] at f
              rw [upd_ne f.2.2]
              exact f2 _ _ e
            · rw [hFi]; exact ⟨bx.nb q20, bx.nh q20, q2l⟩
            · rw [hFi]; exact ⟨Db, Dh, Dl⟩
            · rw [upd_ne q2l]; exact g2
            · rw [upd_ne Dl]; exact f2 _ _ haJ
          · walk_at "rd"
            exact ⟨lots, xs, _, _, _, rfl, D0J, wdJ, hplJ, hxsJ, lg.stay⟩
    obtain ⟨lots, xs, y11, y12, y16, rfl, D11, wd11, hpl11, hxs11, lg⟩ := hW
    clear D010 wd10 h10
    walk_at "rd"
    refine r_small nsz fun pm n12 => ?_
    obtain ⟨H12, k12, e12, h12⟩ := nL (.lst [.int 0]) n12
    rw [← k12]
    have pm0 : H pm = none := D11.fresh n12
    have pmb := bx.nb pm0
    have pmh := bx.nh pm0
    have plm : pl ≠ pm := fun z => by rw [← z, hpl11] at n12; cases n12
    have D12 := D11.then e12
    have kx : ∀ {Hb : Hp}, Dr2 b h H11 Hb → WdV K Hb wv W ∧ LtV (fun a => a ≠ b ∧ a ≠ h) K Hb (.ref pl) lots := by
      intro Hb dd
      exact ⟨imm (R := WdV K) (dr2_tk D11.st dd) wd11, ltv_of ⟨plb, plh⟩ (dd.hh _ _ plb plh hpl11) ((kpl dd D11.st hxs11).imp fun _ _ z => z.wide fun a f => by rw [hFi] at f; exact ⟨f.1, f.2.1⟩)⟩
    walk_at "rd"
    refine l_R (by decide) (by decide) (fun i σ H' => ∃ (ms : List Nat) (y11 y14 y15 : Option V), σ = [some (.ref b), some (.int (many : Nat)), some (.int (k : Nat)), some wv, some (.int m), y5, y6, y7, y8, y9, some (.ref pl), y11, y12, some (.ref pm), y14, y15, y16] ∧ Dr2 b h H11 H' ∧ H' pm = some (.lst (tbv ms)) ∧ ms.length = i + 1)
      ⟨[0], y11, none, none, rfl, (Dr2.refl D11.st).then e12, h12, rfl⟩ (fun i σ H' hi hW => ?_) (fun σ H13 hW => ?_)
    · obtain ⟨ms, y11, y14, y15, rfl, D, hpm, len⟩ := hW
      walk_at "rd"
      rw [show ((many : Nat) : Int) + 1 = ((many + 1 : Nat) : Int) from rfl]
      refine l_R1n (by omega) (by omega) (fun d σ H' => ∃ (mm : Nat) (y11 : Option V), σ = [some (.ref b), some (.int (many : Nat)), some (.int (k : Nat)), some wv, some (.int m), y5, y6, y7, y8, y9, some (.ref pl), y11, y12, some (.ref pm), some (.int (i : Nat)), some (.int (mm : Nat)), y16] ∧ Dr2 b h H11 H' ∧ H' pm = some (.lst (tbv ms)))
        ⟨0, y11, rfl, D, hpm⟩ (fun d σ H1 d1 d2 hW => ?_) (fun σ H2 hW => ?_)
      · obtain ⟨mm, y11, rfl, D1, hpm1⟩ := hW
        walk_at "rd"
        refine ⟨b, h, 2, rfl, D1.st, by decide, by decide, fun x H4 x0 x1 D4 => ?_⟩
        walk_at "rd"
        refine ⟨k, d, rfl, d1, by omega, ?_⟩
        obtain ⟨u1, u2⟩ := numf_lt (k := k) (d := d) d1 (by omega)
        walk_at "rd"
        refine r_I ⟨by omega, by omega, by omega⟩ ?_
        walk_at "rd"
        obtain ⟨m', hm'⟩ := or_some mm x0 (show x < 2 from x1) (numf k d)
        rw [hm']
        exact ⟨m', _, rfl, D1.trans D4, D4.hh _ _ pmb pmh hpm1⟩
      · obtain ⟨mm, y11, rfl, D1, hpm1⟩ := hW
        walk_at "rd"
        refine r_tyL (sqL hpm1) ?_
        walk_at "rd"
        refine r_app hpm1 (Nat.lt_of_le_of_lt (show (tbv ms).length ≤ 1000 by rw [List.length_map]; omega) (by decide)) ?_
        have pm11 : H11 pm = none := n12
        exact ⟨ms ++ [mm], _, _, _, rfl, D1.mut pm11 pmb pmh, by rw [upd_same, tb_app]; rfl, by rw [List.length_append, len]; rfl⟩
    · obtain ⟨ms, y11', y14, y15, rfl, D, hpm, len⟩ := hW
      have len : ms.length = 4 := len
      obtain ⟨wd13, lt13⟩ := kx D
      walk_at "rd"
      refine r_small nsz fun p14 n14 => ?_
      obtain ⟨H14, k14, e14, h14⟩ := nL (.tup [wv, .ref pl, .ref pm]) n14
      rw [← k14]
      have lf8 := lg.few
      exact q p14 H14 W lots ms ((D11.trans D).then e14) ⟨gw, ⟨lg.nd, by omega, mk9⟩, (fun e he => by
        obtain ⟨f, f1, f2, f3⟩ := lg.lot e he
        rw [f3]
        exact (numf_lt f1 (by omega)).2), (fun z => by rw [z] at len; cases len), by omega, by omega, m90, (fun c b' c0 hc => by
        obtain ⟨f, f1, f2, f3⟩ := wo c b' c0 hc
        rw [f3]
        exact ⟨(numf_lt f1 f2).1, numf_290 f1 f2⟩), (fun e he => by
        obtain ⟨f, f1, f2, f3⟩ := lg.lot e he
        rw [f3]
        exact numf_290 f1 (by omega))⟩ ⟨wv, pl, pm, h14, imm (R := WdV K) (.ex e14) wd13, lt13.up e14, pmb, pmh, e14 _ _ hpm⟩
end
end K23

/-! rows that are chains -/
namespace Wd
open PySem PySem.Spec PyProof.Rows L2 Dk Tl
theorem pw_eq {α : Type} {r : α → α → Prop} : ∀ {l m : List α}, l.Pairwise r → m.Pairwise r → (∀ x, x ∈ l ↔ x ∈ m) → (∀ x ∈ l, ∀ y ∈ l, r x y → ¬ r y x) → l = m
  | [], m, _, _, h, _ => by
    cases m with
    | nil => rfl
    | cons b m => exact absurd ((h b).mpr (List.mem_cons_self ..)) List.not_mem_nil
  | a :: l, [], _, _, h, _ => absurd ((h a).mp (List.mem_cons_self ..)) List.not_mem_nil
  | a :: l, b :: m, hl, hm, h, as => by
    rw [List.pairwise_cons] at hl hm
    have ia : ∀ x ∈ a :: l, ¬ r x x := fun x hx z => as x hx x hx z z
    have ab : a = b := by
      have ha := (h a).mp (List.mem_cons_self ..)
      have hb := (h b).mpr (List.mem_cons_self ..)
      rcases List.mem_cons.mp ha with e | ha
      · exact e
      · rcases List.mem_cons.mp hb with e | hb
        · exact e.symm
        · exact absurd (hm.1 a ha) (as a (List.mem_cons_self ..) b (List.mem_cons_of_mem _ hb) (hl.1 b hb))
    subst ab
    have : l = m := pw_eq hl.2 hm.2 (fun x => by
      constructor
      · intro hx
        rcases List.mem_cons.mp ((h x).mp (List.mem_cons_of_mem _ hx)) with e | z
        · subst e
          exact absurd (hl.1 x hx) (ia x (List.mem_cons_self ..))
        · exact z
      · intro hx
        rcases List.mem_cons.mp ((h x).mpr (List.mem_cons_of_mem _ hx)) with e | z
        · subst e
          exact absurd (hm.1 x hx) (ia x (List.mem_cons_self ..))
        · exact z) (fun x hx y hy => as x (List.mem_cons_of_mem _ hx) y (List.mem_cons_of_mem _ hy))
    rw [this]
theorem A.asym {W : List Bi} (g : Gw W) {x y : Sg} (ox : OkW W x) (oy : OkW W y) (a : A (lf W) (rf W) x y) : ¬ A (lf W) (rf W) y x := fun b => A.irr (g.wv.toBs.tr ox.1 oy.1 ox.1 a b)
/-- each two are told -/
def AllT (W : List Bi) (row : List Sg) : Prop := ∀ (i j : Nat) (x y : Sg), j < i → row[i]? = some x → row[j]? = some y → A (lf W) (rf W) x y ∨ A (lf W) (rf W) y x
theorem allT_pw {W : List Bi} {row : List Sg} (pw : row.Pairwise fun x y => ¬ A (lf W) (rf W) y x ∧ x ≠ y) (h : AllT W row) : row.Pairwise (A (lf W) (rf W)) := by
  rw [List.pairwise_iff_getElem] at pw ⊢
  intro i j hi hj ij
  rcases h j i _ _ ij (List.getElem?_eq_getElem hj) (List.getElem?_eq_getElem hi) with a | a
  · exact absurd a (pw i j hi hj ij).1
  · exact a
theorem pw_allT {W : List Bi} {row : List Sg} (pw : row.Pairwise (A (lf W) (rf W))) : AllT W row := fun i j x y ij hi hj => .inr (pw_at pw hj hi ij)
/-- what only neighbours tell -/
theorem nei_pw {W : List Bi} {row : List Sg} (g : Gw W) (ok : ∀ x ∈ row, OkW W x) (nb : ∀ i x y, row[i]? = some x → row[i + 1]? = some y → A (lf W) (rf W) x y) : row.Pairwise (A (lf W) (rf W)) := by
  have key : ∀ d i x y, row[i]? = some x → row[i + d + 1]? = some y → A (lf W) (rf W) x y := by
    intro d
    induction d with
    | zero => exact nb
    | succ d ih =>
      intro i x y hx hy
      have l := (List.getElem?_eq_some_iff.mp hy).1
      obtain ⟨z, hz⟩ : ∃ z, row[i + d + 1]? = some z := ⟨_, List.getElem?_eq_getElem (by omega)⟩
      exact g.wv.toBs.tr (ok x (List.mem_of_getElem? hx)).1 (ok z (List.mem_of_getElem? hz)).1 (ok y (List.mem_of_getElem? hy)).1 (ih i x z hx hz) (nb _ z y hz hy)
  rw [List.pairwise_iff_getElem]
  intro i j hi hj ij
  refine key (j - i - 1) i _ _ (List.getElem?_eq_getElem hi) ?_
  rw [show i + (j - i - 1) + 1 = j by omega]
  exact List.getElem?_eq_getElem hj
/-- the same order among elder signs -/
theorem A_old {W : List Bi} {bi : Bi} (g : Gw W) {x y : Sg} (hx : x.1 < W.length) (hy : y.1 < W.length) : A (lf (W ++ [bi])) (rf (W ++ [bi])) x y ↔ A (lf W) (rf W) x y := by
  refine ⟨fun a => ?_, A_up g hx hy⟩
  have h := (A.wide (L := lf W) (R := rf W) (L' := lf (W ++ [bi])) (R' := rf (W ++ [bi])) g.wv (fun c hc => by rw [lf_snoc, upn_ne hc]) (fun c hc => by rw [rf_snoc, upn_ne hc]) hx hy).mpr a
  exact h
theorem E_old {W : List Bi} {bi : Bi} (g : Gw W) {x y : Sg} (hx : x.1 < W.length) (hy : y.1 < W.length) : E (lf (W ++ [bi])) (rf (W ++ [bi])) x y ↔ E (lf W) (rf W) x y := by
  unfold E
  rw [A_old g hx hy]
/-- the row of the elder births -/
theorem laid_old {W : List Bi} {bi : Bi} {ch : List Int} : ∀ n, n ≤ W.length → 0 < n → 0 < W.length → laid (W ++ [bi]) ch n = laid W ch n
  | 0, _, h, _ => absurd h (Nat.lt_irrefl _)
  | 1, _, _, _ => rfl
  | n + 2, hn, _, h0 => by
    have ih := laid_old (bi := bi) (ch := ch) (n + 1) (by omega) (by omega) h0
    show laid (W ++ [bi]) ch (n + 1 + 1) = laid W ch (n + 1 + 1)
    rw [laid_succ (W := W ++ [bi]) (n := n + 1) (by omega), laid_succ (W := W) (n := n + 1) (by omega), ih, lf_snoc, rf_snoc, upn_ne (by omega), upn_ne (by omega)]
    unfold putIn Tl.rowOf
    rw [sz_snoc h0, upn_ne (by omega)]
/-- the row with one chunk more, of which nothing is shown -/
theorem filter_snoc {W : List Bi} {bi : Bi} {ch : List Int} {V V' : Sg → Bool} (h0 : 0 < W.length) (hn : ∀ i, i < bi.t.length → V' (W.length, i) = false) (ho : ∀ x ∈ laid W ch W.length, V' x = V x) : (laid (W ++ [bi]) ch (W ++ [bi]).length).filter V' = (laid W ch W.length).filter V := by
  rw [len_snoc, laid_succ h0, laid_old _ (Nat.le_refl _) h0 h0]
  unfold putIn
  rw [List.filter_append, List.filter_append]
  have e : (Tl.rowOf (sz (W ++ [bi])) W.length).filter V' = [] := by
    rw [List.filter_eq_nil_iff]
    intro x hx
    unfold Tl.rowOf at hx
    obtain ⟨i, hi, rfl⟩ := List.mem_map.mp hx
    rw [sz_snoc h0, upd_at, List.mem_range] at hi
    rw [hn i hi]
    decide
  rw [e, List.append_nil, ← List.filter_append, List.take_append_drop]
  exact List.filter_congr ho
theorem len_off {W : List Bi} (g : Gw W) : ∀ n, n ≤ W.length → n ≤ off (sz W) n
  | 0, _ => Nat.le_refl _
  | n + 1, h => by
    have := len_off g n (by omega)
    show _ ≤ off (sz W) n + sz W n
    have : 0 < sz W n := by
      rcases Nat.eq_zero_or_pos n with z | z
      · rw [z, sz0]; decide
      · exact g.wv.s1 n z (by omega)
    omega
theorem k_mtIndex {X : Cx} {K : PySem.W.Frag} (h : X.K = K) (hu : X.A.units + 65 < cLine) : MtR X "list.index" (rIndexD K) := h ▸ mt_indexD hu
theorem k_bm {X : Cx} {K : PySem.W.Frag} {o e : Expr} {es : List Expr} {to : TE} {t : TA} {name : Str} {apos cpos : Pos} {T id : String} {r : V → List V → Hp → VK → Prop} (hK : X.K = K) (pa : PlainAttrs T) (slot : Slot T name id) (hty : typeOf (.builtin id) = pure (.type "method_descriptor")) (hm : MtR X id r) (ho : PE X o to) (ha : PA X (e :: es) t)
    (hbase : attributeBase o name X.env (eval o X.env) = eval o X.env := by rfl)
    (hfew : ((backTo cpos (starEach (e :: es) X.env)).all (fun x => !x.1) && (backToKw cpos (keywordEach [] X.env)).all (fun x => x.1.isSome)
      && decide ((e :: es).length + ([] : List Keyword).length + (if ([] : List Keyword).isEmpty then 0 else 1) < 30)) = true := by rfl)
    (hline : (apos.endLine == cpos.line) = true := by rfl) (hs : starEach (e :: es) X.env = (false, eval e X.env) :: starEach es X.env := by rfl) (hplain : (backTo cpos (starEach es X.env)).any (·.1) = false := by rfl) :
    PE X (.Call (.Attribute o name apos) (e :: es) [] cpos) (tBM K T r to t) := hK ▸ pe_bm pa slot hty hm ho ha hbase hfew hline hs hplain
theorem two_bits1 (x y a b : Nat) : decide (V.int (Builtin.bitAnd (Builtin.bitOr ((x : Int) / 2 ^ ((b : Int)).toNat) ((y : Int) / 2 ^ ((a : Int)).toNat)) 1) = V.int 1) = (x.testBit b || y.testBit a) := by
  have hx : ((x : Int) / 2 ^ ((b : Int)).toNat) = ((x >>> b : Nat) : Int) := by
    rw [Int.toNat_natCast, Nat.shiftRight_eq_div_pow]
    push_cast
    rfl
  have hy : ((y : Int) / 2 ^ ((a : Int)).toNat) = ((y >>> a : Nat) : Int) := by
    rw [Int.toNat_natCast, Nat.shiftRight_eq_div_pow]
    push_cast
    rfl
  rw [hx, hy, Bits.bitOr_pp (Int.natCast_nonneg _) (Int.natCast_nonneg _), Int.toNat_natCast, Int.toNat_natCast]
  have h1 : Builtin.bitAnd (((x >>> b ||| y >>> a : Nat)) : Int) 1 = (((x >>> b ||| y >>> a) &&& 1 : Nat) : Int) := by
    rw [PyProof.Rows.bitAnd_pp (Int.natCast_nonneg _) (by decide), Int.toNat_natCast]
    rfl
  rw [h1, Bool.eq_iff_iff, decide_eq_true_iff, Bool.or_eq_true]
  have e : (x >>> b ||| y >>> a).testBit 0 = (x.testBit b || y.testBit a) := by
    rw [Nat.testBit_or, Nat.testBit_shiftRight, Nat.testBit_shiftRight]
    rfl
  have e2 : ((x >>> b ||| y >>> a) &&& 1) = if (x >>> b ||| y >>> a).testBit 0 then 1 else 0 := by
    rw [Nat.and_one_is_mod, Nat.testBit_zero]
    rcases Nat.mod_two_eq_zero_or_one (x >>> b ||| y >>> a) with h | h <;> simp [h]
  rw [e2, e]
  cases x.testBit b <;> cases y.testBit a <;> simp
end Wd

namespace K23
open PySem PySem.Spec PyProof.Rows L2 Dk Tl
/-- one step of a reading -/
local macro_rules | `(tactic| walk_at "rd1") => `(tactic| first
  | ((with_reducible refine r_var (v := ?rv) ?rh ?_); (case rh => rfl))
  | with_reducible refine r_c ?_
  | with_reducible refine r_seq ?_
  | with_reducible refine r_asg ?_
  | with_reducible refine r_par ?_
  | with_reducible refine r_gname ?_
  | with_reducible refine r_op ?_
  | with_reducible refine r_forLo ?_
  | with_reducible refine r_forTo ?_
  | with_reducible refine r_forSo ?_
  | with_reducible refine r_forRo ?_
  | with_reducible refine r_forRvo ?_
  | with_reducible refine r_forZo ?_
  | with_reducible refine r_revS ?_
  | with_reducible refine r_lcRo ?_
  | with_reducible refine r_lcLo ?_
  | with_reducible refine r_yes ?_
  | with_reducible refine r_callK0 ?_
  | with_reducible refine r_break ?_
  | with_reducible refine r_forR2o ?_
  | with_reducible refine r_forEo ?_
  | with_reducible refine r_forESo ?_
  | with_reducible refine r_xfo ?_
  | with_reducible refine r_noP ?_
  | with_reducible refine r_part ?_
  | with_reducible refine r_pI ?_
  | with_reducible refine r_gcons ?_
  | with_reducible refine r_gnil ?_
  | with_reducible refine r_mkO ?_
  | with_reducible refine r_un ?_
  | with_reducible refine r_addI ?_
  | with_reducible refine r_I0 ?_
  | with_reducible refine r_U ?_
  | with_reducible refine r_cons ?_
  | with_reducible refine r_nil ?_
  | with_reducible refine r_CB ?_
  | with_reducible refine r_call ?_
  | with_reducible refine r_callS ?_
  | with_reducible refine r_int ?_
  | with_reducible refine r_max ?_
  | with_reducible refine r_min ?_
  | with_reducible refine r_test ?_
  | with_reducible refine r_B ?_
  | with_reducible refine r_blv ?_
  | with_reducible refine r_and ?_
  | with_reducible refine r_or ?_
  | with_reducible refine r_not ?_
  | with_reducible refine r_andV ?_
  | with_reducible refine r_orV ?_
  | with_reducible refine r_notV ?_
  | with_reducible refine r_ifE ?_
  | with_reducible refine r_ifS ?_
  | with_reducible refine r_ret ?_
  | with_reducible refine r_retN ?_
  | with_reducible refine r_drop ?_
  | with_reducible refine r_next ?_
  | with_reducible refine r_sl ?_
  | with_reducible refine r_gsub ?_
  | with_reducible refine r_bm ?_
  | with_reducible refine r_tup ?_
  | with_reducible refine r_lst ?_
  | with_reducible refine r_isN ?_
  | with_reducible refine r_notN ?_
  | with_reducible refine r_chain ?_
  | with_reducible refine r_lcEio ?_
  | with_reducible refine r_forEi ?_
  | with_reducible refine r_lcTo ?_
  | with_reducible refine r_m1 ?_
  | with_reducible refine r_dget ?_
  | with_reducible refine r_din ?_
  | with_reducible refine r_dnotin ?_
  | with_reducible refine r_starC ?_
  | with_reducible refine r_callKS ?_
  | with_reducible refine r_itt ?_
  | with_reducible refine r_iff ?_
  | with_reducible refine r_ittN ?_
  | with_reducible refine r_iffN ?_
  | ((with_reducible refine r_ittD ?rh ?_); (case rh => rfl))
  | ((with_reducible refine r_iffD ?rh ?_); (case rh => rfl))
  | ((with_reducible refine r_modP ?rh ?_); (case rh => decide))
  | ((with_reducible refine r_eq ?rh ?_); (case rh => rfl))
  | ((with_reducible refine r_eqP ?rh ?_); (case rh => rfl))
  | ((with_reducible refine r_ne ?rh ?_); (case rh => rfl)))
local macro_rules | `(tactic| walk_at "rd") => `(tactic| repeat walk_at "rd1")
local macro_rules | `(tactic| walk_at "isi") => `(tactic| first | refine r_isi (b := true) (by assumption) (by decide +kernel) ?_ | refine r_isi (b := false) (by assumption) (by decide +kernel) ?_)
local macro_rules | `(tactic| walk_at "rs1") => `(tactic| first
  | with_reducible refine r_seq ?_
  | with_reducible refine r_asg ?_
  | with_reducible refine r_gname ?_
  | with_reducible refine r_ret ?_)
local macro_rules | `(tactic| walk_at "rs") => `(tactic| repeat walk_at "rs1")

open Wd
def tdB (U : List Nat) (a b : Nat) : Bool := (U.getD a 0).testBit b || (U.getD b 0).testBit a
theorem tdB_iff {W : List Bi} {U : List Nat} (tl : Tells (lf W) (rf W) (Wd.sz W) W.length U) {x y : Sg} (ox : OkW W x) (oy : OkW W y) : tdB U (ps (Wd.sz W) x) (ps (Wd.sz W) y) = true ↔ A (lf W) (rf W) x y ∨ A (lf W) (rf W) y x := by
  unfold tdB
  rw [Bool.or_eq_true]
  exact or_congr (tl.2 x y ox oy) (tl.2 y x oy ox)
theorem filter_prefix {f : Nat → Bool} : ∀ {S : List Nat} {i : Nat}, (∀ j a, S[j]? = some a → (f a = true ↔ j < i)) → S.filter f = S.take i
  | [], i, _ => by simp
  | a :: S, 0, h => by
    rw [List.take_zero, List.filter_eq_nil_iff]
    intro x hx g
    obtain ⟨j, hj⟩ := List.getElem?_of_mem hx
    have := (h j x hj).mp g
    omega
  | a :: S, i + 1, h => by
    have h0 := (h 0 a rfl).mpr (Nat.succ_pos _)
    rw [List.filter_cons_of_pos h0, List.take_succ_cons, filter_prefix (i := i) fun j b hj => by
      have := h (j + 1) b hj
      rw [this]
      omega]
theorem p2_set {α β : Type} {R : α → β → Prop} {l : List α} {m : List β} {a : α} {b : β} (h : P2 R l m) (r : R a b) : ∀ i, P2 R (l.set i a) (m.set i b) := by
  induction h with
  | nil => intro i; exact .nil
  | cons s t ih =>
    intro i
    cases i with
    | zero => exact .cons r t
    | succ i => exact .cons s (ih i)
theorem pos_ps {W : List Bi} {row : List Sg} {i a : Nat} (h : (row.map (ps (Wd.sz W)))[i]? = some a) : ∃ x, row[i]? = some x ∧ ps (Wd.sz W) x = a := by
  rw [List.getElem?_map] at h
  obtain ⟨x, hx, e⟩ := Option.map_eq_some_iff.mp h
  exact ⟨x, hx, e⟩
section
variable {P : Program} {w : World} {K : PySem.W.Frag} {mg : Str → Option Value} {base : Heap}
def spTold2 : Sp := fun vs H Q _ => ∃ (pt : Addr) (U : List Nat) (a b : Nat), vs = [.ref pt, .int (a : Nat), .int (b : Nat)] ∧ H pt = some (.lst (tbv U)) ∧ a < U.length ∧ b < U.length ∧ Q (.bl (tdB U a b)) H
theorem ok_law_told (T : Txt K mg) : FnOk P w K mg base CX0 1 T.a_law_told T.d_law_told ["_law_table", "_law_a", "_law_b"] spTold2 := by
  refine T.F_law_told.ok sc_law_told (fun vs H Q E h => ?_) (fun cdv A outer s H vs Q E hr h => ?_)
  · obtain ⟨pt, U, a, b, rfl, _⟩ := h
    rfl
  · obtain ⟨pt, U, a, b, rfl, ht, ha, hb, q⟩ := h
    refine ⟨_, (pss_one (ps_ret (pe_cmpR (op_eqU hr.units) (pe_op op_and (pe_op op_or (pe_op op_shr (pe_ix ix_seq (pv 0) (pv 1) (fun _ _ => rfl)) (pv 2)) (pe_op op_shr (pe_ix ix_seq (pv 0) (pv 2) (fun _ _ => rfl)) (pv 1))) pe_int) pe_int (nomark _)))), ?_⟩
    walk_at "rd"
    refine r_ixL (sqL ht) (atI_nat (tb_at ha)) ?_
    walk_at "rd"
    refine r_I (by omega) ?_
    walk_at "rd"
    refine r_ixL (sqL ht) (atI_nat (tb_at hb)) ?_
    walk_at "rd"
    refine r_I (by omega) ?_
    walk_at "rd"
    rw [two_bits1]
    exact q
def spSettled : Sp := fun vs H Q _ => ∃ (pt ps : Addr) (U S : List Nat), vs = [.ref pt, .ref ps] ∧ H pt = some (.lst (tbv U)) ∧ H ps = some (.lst (tbv S)) ∧ (∀ a ∈ S, a < U.length) ∧ S.length ≤ 1000 ∧
  ∀ c, (c = true ↔ ∀ (i j a b : Nat), j < i → S[i]? = some a → S[j]? = some b → tdB U a b = true) → Q (.bl c) H
theorem ok_law_settled (T : Txt K mg) : FnOk P w K mg base CX0 2 T.a_law_settled T.d_law_settled ["_law_table", "_law_spots"] spSettled := by
  refine T.F_law_settled.ok sc_law_settled (fun vs H Q E h => ?_) (fun cdv A outer s H vs Q E hr h => ?_)
  · obtain ⟨pt, ps, U, S, rfl, _⟩ := h
    rfl
  · obtain ⟨pt, ps, U, S, rfl, ht, hs, lt, ls, q⟩ := h
    refine ⟨_, (pss_cons (ps_for PassesOwn.never rfl (pi_range1 (by rfl) T.n_range (pa_cons (pe_callB call_lenU (by rfl) T.n_len (by decide +kernel) (pa_cons (pv 1) pa_nil)) pa_nil)) (pg_name (i := 2) sc_law_settled.nd rfl (Or.inl rfl)) (pss_one (ps_for PassesOwn.never rfl (pi_range1 (by rfl) T.n_range (pa_cons (pv 2) pa_nil)) (pg_name (i := 3) sc_law_settled.nd rfl (Or.inl rfl)) (pss_one (ps_if (pt_not (pt_val (pe_call (ok_law_told T) hr (by rfl) T.g_law_told T.F_law_told.kp T.b_law_told .nil pass0 (pa_cons (pv 0) (pa_cons (pe_ix ix_seq (pv 1) (pv 2) (fun _ _ => rfl)) (pa_cons (pe_ix ix_seq (pv 1) (pv 3) (fun _ _ => rfl)) pa_nil)))))) (pss_one (ps_ret pe_bl)) pss_nil)))))
        (pss_one (ps_ret pe_bl))), ?_⟩
    walk_at "rd"
    refine r_lenL (sqL hs) ?_
    rw [List.length_map]
    walk_at "rd"
    refine l_R (by omega) (by omega) (fun n σ H' => H' = H ∧ (∀ (i j a b : Nat), i < n → j < i → S[i]? = some a → S[j]? = some b → tdB U a b = true) ∧ ∃ y2 y3, σ = [some (.ref pt), some (.ref ps), y2, y3]) ⟨rfl, fun i j a b h => absurd h (Nat.not_lt_zero i), none, none, rfl⟩ (fun n σ H' hn hW => ?_) (fun σ H' hW => ?_)
    · obtain ⟨rfl, hno, y2, y3, rfl⟩ := hW
      obtain ⟨a, ha⟩ : ∃ a, S[n]? = some a := ⟨_, List.getElem?_eq_getElem (by omega)⟩
      walk_at "rd"
      refine l_R (by omega) (by omega) (fun m σ H1 => H1 = H' ∧ (∀ (j b : Nat), j < m → S[j]? = some b → tdB U a b = true) ∧ ∃ y3, σ = [some (.ref pt), some (.ref ps), some (.int (n : Nat)), y3]) ⟨rfl, fun j b h => absurd h (Nat.not_lt_zero j), y3, rfl⟩ (fun m σ H1 hm hW => ?_) (fun σ H1 hW => ?_)
      · obtain ⟨rfl, hno2, y3, rfl⟩ := hW
        obtain ⟨b, hb⟩ : ∃ b, S[m]? = some b := ⟨_, List.getElem?_eq_getElem (by omega)⟩
        walk_at "rd"
        refine r_ixL (v := .int (a : Nat)) (sqL hs) (atI_nat (by rw [List.getElem?_map, ha]; rfl)) ?_
        walk_at "rd"
        refine r_ixL (v := .int (b : Nat)) (sqL hs) (atI_nat (by rw [List.getElem?_map, hb]; rfl)) ?_
        walk_at "rd"
        refine ⟨pt, U, a, b, rfl, ht, lt a (List.mem_of_getElem? ha), lt b (List.mem_of_getElem? hb), ?_⟩
        cases c : tdB U a b with
        | true =>
          walk_at "rd"
          refine ⟨rfl, fun j b' hj hb' => ?_, _, rfl⟩
          by_cases g : j < m
          · exact hno2 j b' g hb'
          · have : j = m := by omega
            subst this
            rw [hb] at hb'
            rw [← Option.some.inj hb']
            exact c
        | false =>
          walk_at "rd"
          refine q false ⟨fun h => (by cases h), fun h => ?_⟩
          have := h n m a b (by omega) ha hb
          rw [c] at this
          exact this
      · obtain ⟨rfl, hno2, y3, rfl⟩ := hW
        refine ⟨rfl, fun i j a' b' hi hj ha' hb' => ?_, _, _, rfl⟩
        by_cases g : i < n
        · exact hno i j a' b' g hj ha' hb'
        · have : i = n := by omega
          subst this
          rw [ha] at ha'
          rw [← Option.some.inj ha']
          exact hno2 j b' (by omega) hb'
    · obtain ⟨rfl, hno, y2, y3, rfl⟩ := hW
      walk_at "rd"
      refine q true ⟨fun _ i j a b hj ha hb => ?_, fun _ => rfl⟩
      have := (List.getElem?_eq_some_iff.mp ha).1
      exact hno i j a b (by omega) hj ha hb
def spInOrder (K : PySem.W.Frag) : Sp := fun vs H Q _ => ∃ (pm pt ps : Addr) (W : List Bi) (U : List Nat) (R : List Sg), vs = [.ref pm, .ref pt, .ref ps] ∧ Mt K H (.ref pm) (.ref pt) W U ∧ H ps = some (.lst (tbv (R.map (Tl.ps (Wd.sz W))))) ∧ (∀ x ∈ R, OkW W x) ∧ R.length ≤ 900 ∧ Gw W ∧ R.Pairwise (A (lf W) (rf W)) ∧
  ∀ p H', Ex H H' → TupV K (SgV K) H' (.ref p) R → Q (.ref p) H'
set_option maxHeartbeats 16000000 in
theorem ok_law_in_order (T : Txt K mg) : FnOk P w K mg base CX0 1 T.a_law_in_order T.d_law_in_order ["_law_marks", "_law_table", "_law_spots"] (spInOrder K) := by
  refine T.F_law_in_order.ok sc_law_in_order (fun vs H Q E h => ?_) (fun cdv A outer s H vs Q E hr h => ?_)
  · obtain ⟨pm, pt, ps, W, U, R, rfl, _⟩ := h
    rfl
  · obtain ⟨pm, pt, ps, W, U, R, rfl, mt, hs, hok, hl, gw, pw, q⟩ := h
    refine ⟨_, (pss_cons (ps_setLc (i := 4) (own := [("_law_k", 3)]) (g := gName 3) rfl sc_law_in_order.nd rfl rfl (sw_true rfl rfl rfl (by decide +kernel)) (pi_list (pv 2)) (blkOk_by (N := N_law_in_order) (sc := defScope s_law_in_order) (by decide +kernel)) (fun _ _ _ _ _ => pg_name (i := 3) sc_law_in_order.nd rfl (Or.inl rfl)) (fun _ _ _ _ _ => pts_nil) (fun _ _ _ _ _ => (pe_tup (pa_cons pe_int (pa_cons pe_int pa_nil)))))
        (pss_cons (ps_for PassesOwn.never rfl (pi_list (pv 2)) (pg_name (i := 3) sc_law_in_order.nd rfl (Or.inr rfl)) (pss_one (ps_asg (pe_ix ix_seq (pv 0) (pv 3) (fun _ _ => rfl)) (pg_sub (pv 4) (pe_callB call_lenU (by rfl) T.n_len (by decide +kernel) (pa_cons (pe_lc (own := [("_law_m", 5)]) (g := gName 5) rfl sc_law_in_order.nd (pi_list (pv 2)) (blkOk_by (N := N_law_in_order) (sc := defScope s_law_in_order) (by decide +kernel)) (fun _ _ _ _ _ => pg_name (i := 5) sc_law_in_order.nd rfl (Or.inl rfl)) (fun _ _ _ _ _ => (pts_one (pt_cmpR (k_eqU (K := K) rfl hr.units) (pe_op op_and (pe_op op_shr (pe_ix (k_ix (K := K) rfl) (pv 1) (pv 5) (fun _ _ => rfl)) (pv 3)) pe_int) pe_int (nomark _)))) (fun _ _ _ _ _ => (pv 5))) pa_nil)) set_list))))
        (pss_one (ps_ret (pe_callTy call_tupU (by rfl) T.n_tuple (by decide +kernel) (pa_cons (pv 4) pa_nil)))))), ?_⟩
    obtain ⟨⟨pm', ms, e, hm, hms⟩, ⟨pt', e', ht⟩, tl, ul⟩ := mt
    cases e
    cases e'
    obtain ⟨S, hS⟩ : ∃ S, R.map (Tl.ps (Wd.sz W)) = S := ⟨_, rfl⟩
    have Sl : S.length = R.length := by rw [← hS, List.length_map]
    have Slt : ∀ a ∈ S, a < U.length := fun a ha => by
      rw [← hS] at ha
      obtain ⟨x, hx, rfl⟩ := List.mem_map.mp ha
      exact ps_ltW tl (hok x hx)
    rw [hS] at hs
    walk_at "rd"
    refine l_lcL (sqL hs) (fun D i H' => Ex H H' ∧ ∃ acc, H' D = some (.lst acc) ∧ SgL K H' acc (List.replicate i (0, 0))) (fun D hD => ⟨Same.new (Same.refl H) hD, [], upd_same, .nil⟩) (fun D i H' hW => sqL (hW.1 _ _ hs)) (fun D i x H' hD hi hW => ?_) (fun D H1 hD hW => ?_)
    · obtain ⟨e, acc, ha, hA⟩ := hW
      have al := hA.len
      rw [List.length_replicate] at al
      have il := (List.getElem?_eq_some_iff.mp hi).1
      rw [List.length_map] at il
      walk_at "rd"
      refine ⟨rfl, ?_⟩
      walk_at "rd"
      refine r_small nsz fun p2 n2 => ?_
      obtain ⟨H2, k2, e2, s2⟩ := nS K (a := 0) (b := 0) (i := 0) (j := 0) n2 rfl rfl
      rw [← k2]
      have ha2 := e2 _ _ ha
      have tp := Tk.put (o := .lst (acc ++ [.ref p2])) ha2
      refine ⟨acc, ha2, Nat.lt_of_le_of_lt (show acc.length ≤ 1000 by omega) (by decide), Same.mut (e.trans e2) hD, acc ++ [.ref p2], upd_same, ?_⟩
      rw [List.replicate_succ']
      exact (p2_imm ((Tk.ex e2).trans tp) hA).snoc (imm (R := SgV K) tp s2)
    obtain ⟨e1, acc, ha, hA⟩ := hW
    rw [List.length_map, Sl] at hA
    walk_at "rd"
    refine l_L (sqL (e1 _ _ hs)) (fun i σ H' => Ex H H' ∧ ∃ xs y4, σ = [some (.ref pm), some (.ref pt), some (.ref ps), y4, some (.ref D), none] ∧ H' D = some (.lst xs) ∧ SgL K H' xs (R.take i ++ List.replicate (R.length - i) (0, 0))) ⟨e1, acc, none, rfl, ha, by rw [List.take_zero, List.nil_append, Nat.sub_zero]; exact hA⟩ (fun i σ H' hW => sqL (hW.1 _ _ hs)) (fun i v σ H' hv hW => ?_) (fun σ H' hW => ?_)
    · obtain ⟨e, xs, y4, rfl, hD', hX⟩ := hW
      rw [List.getElem?_map] at hv
      obtain ⟨a, ha', rfl⟩ := Option.map_eq_some_iff.mp hv
      obtain ⟨x, hx, hpx⟩ := pos_ps (W := W) (row := R) (by rw [hS]; exact ha')
      have okx := hok x (List.mem_of_getElem? hx)
      have il := (List.getElem?_eq_some_iff.mp hx).1
      have hmk := marks_at okx
      rw [hpx] at hmk
      have al := Slt a (List.mem_of_getElem? ha')
      walk_at "rd"
      refine r_ixLV (R := SgV K) (e _ _ hm) (p2_imm (.ex e) hms) hmk fun u su => ?_
      walk_at "rd"
      refine l_lcL (sqL (e _ _ hs)) (fun D2 t H2 => Ex H' H2 ∧ ∃ cc, H2 D2 = some (.lst (tbv cc)) ∧ cc = (S.take t).filter fun m => (U.getD m 0).testBit a) (fun D2 hD2 => ⟨Same.new (Same.refl H') hD2, [], upd_same, rfl⟩) (fun D2 t H2 hW => sqL (hW.1 _ _ (e _ _ hs))) (fun D2 t z H2 hD2 ht' hW => ?_) (fun D2 H2 hD2 hW => ?_)
      · obtain ⟨e2, cc, hc, rfl⟩ := hW
        rw [List.getElem?_map] at ht'
        obtain ⟨m, hm', rfl⟩ := Option.map_eq_some_iff.mp ht'
        have ml := Slt m (List.mem_of_getElem? hm')
        have fl := List.length_filter_le (fun m => (U.getD m 0).testBit a) (S.take t)
        rw [List.length_take] at fl
        walk_at "rd"
        refine ⟨rfl, ?_⟩
        walk_at "rd"
        refine r_ixL (sqL (e2 _ _ (e _ _ ht))) (atI_nat (tb_at ml)) ?_
        walk_at "rd"
        refine r_I (by omega) ?_
        walk_at "rd"
        rw [bit_val, filter_step hm']
        cases c : (U.getD m 0).testBit a with
        | true =>
          walk_at "rd"
          refine ⟨_, hc, Nat.lt_of_le_of_lt (show (tbv _).length ≤ 1000 by rw [List.length_map]; omega) (by decide), Same.mut e2 hD2, _, by rw [upd_same]; exact congrArg (fun z => some (HO.lst z)) (tb_app _ [m]).symm, rfl⟩
        | false =>
          walk_at "rd"
          refine ⟨e2, _, hc, by simp⟩
      obtain ⟨e2, cc, hc, hcc⟩ := hW
      rw [List.length_map, List.take_length, filter_prefix (i := i) fun j m hj => by
        obtain ⟨y, hy, hpy⟩ := pos_ps (W := W) (row := R) (by rw [hS]; exact hj)
        have oky := hok y (List.mem_of_getElem? hy)
        have t1 := tl.2 y x oky okx
        unfold Bit at t1
        rw [hpx, hpy] at t1
        rw [t1]
        constructor
        · intro g
          rcases Nat.lt_trichotomy j i with z | z | z
          · exact z
          · subst z
            rw [hy] at hx
            rw [Option.some.inj hx] at g
            exact absurd g Tl.A.irr
          · exact absurd (pw_at pw hx hy z) (Wd.A.asym gw oky okx g)
        · intro z
          exact pw_at pw hy hx z] at hcc
      walk_at "rd"
      refine r_lenL (sqL hc) ?_
      have cl : (tbv cc).length = i := by
        rw [List.length_map, hcc, List.length_take]
        omega
      rw [cl]
      walk_at "rd"
      have hD2' := e2 _ _ hD'
      have xl := hX.len
      rw [List.length_append, List.length_take, List.length_replicate] at xl
      refine r_setL hD2' (n := i) (ixN_nat (by omega) (by omega)) ?_
      have tp := Tk.put (o := .lst (xs.set i u)) hD2'
      refine ⟨Same.mut (e.trans e2) hD, _, _, rfl, upd_same, ?_⟩
      have hX2 := p2_imm (R := SgV K) ((Tk.ex e2).trans tp) hX
      have su2 := imm (R := SgV K) ((Tk.ex e2).trans tp) su
      have := p2_set hX2 su2 i
      have e9 : (R.take i ++ List.replicate (R.length - i) (0, 0)).set i x = R.take (i + 1) ++ List.replicate (R.length - (i + 1)) (0, 0) := by
        rw [List.set_append_right _ _ (by rw [List.length_take]; omega), List.length_take, Nat.min_eq_left (by omega), Nat.sub_self, show R.length - i = (R.length - (i + 1)) + 1 by omega, List.replicate_succ, List.set_cons_zero, List.take_add_one, hx]
        simp
      rw [e9] at this
      exact this
    · obtain ⟨e, xs, y4, rfl, hD', hX⟩ := hW
      rw [List.length_map, Sl, List.take_length, Nat.sub_self, List.replicate_zero, List.append_nil] at hX
      walk_at "rd"
      refine r_tupLV (R := SgV K) hD' hX fun p9 H9 n9 e9 t9 => ?_
      exact q p9 H9 (e.trans e9) t9
def spNei (K : PySem.W.Frag) : Sp := fun vs H Q _ => ∃ (mk tb v : V) (W : List Bi) (U : List Nat) (row : List Sg), vs = [mk, tb, v] ∧ Gw W ∧ Mt K H mk tb W U ∧ RwV K H v row ∧ (∀ x ∈ row, OkW W x) ∧ row.Nodup ∧ row.length ≤ 900 ∧
  ∀ u o H', Ex H H' → OpV K H' u o → Fu W row o → Q u H'
set_option maxHeartbeats 16000000 in
theorem ok_law_neighbours (T : Txt K mg) : FnOk P w K mg base CX0 2 T.a_law_neighbours T.d_law_neighbours ["_law_marks", "_law_table", "_law_row"] (spNei K) := by
  refine T.F_law_neighbours.ok sc_law_neighbours (fun vs H Q E h => ?_) (fun cdv A outer s H vs Q E hr h => ?_)
  · obtain ⟨mk, tb, v, W, U, row, rfl, _⟩ := h
    rfl
  · obtain ⟨mk, tb, v, W, U, row, rfl, gw, ⟨⟨pm, ms, rfl, hm, hms⟩, ⟨pt, rfl, ht⟩, tl, ul⟩, hv, hok, nd, hlen, q⟩ := h
    refine ⟨_, (pss_cons (ps_for PassesOwn.never rfl (pi_range1 (by rfl) T.n_range (pa_cons (pe_op op_sub (pe_callB call_lenU (by rfl) T.n_len (by decide +kernel) (pa_cons (pv 2) pa_nil)) pe_int) pa_nil)) (pg_name (i := 3) sc_law_neighbours.nd rfl (Or.inl rfl)) (pss_one (ps_if (pt_not (pt_val (pe_call (ok_law_told T) hr (by rfl) T.g_law_told T.F_law_told.kp T.b_law_told .nil pass0 (pa_cons (pv 1) (pa_cons (pe_bm PySem.F.plainAttrs_list PySem.F.slot_list_index PySem.F.type_list_index (mt_indexD hr.units65) (pv 0) (pa_cons (pe_ix ix_seq (pv 2) (pv 3) (fun _ _ => rfl)) pa_nil)) (pa_cons (pe_bm PySem.F.plainAttrs_list PySem.F.slot_list_index PySem.F.type_list_index (mt_indexD hr.units65) (pv 0) (pa_cons (pe_ix ix_seq (pv 2) (pe_op op_addU (pv 3) pe_int) (fun _ _ => rfl)) pa_nil)) pa_nil)))))) (pss_one (ps_ret (pe_tup (pa_cons (pe_ix ix_seq (pv 2) (pv 3) (fun _ _ => rfl)) (pa_cons (pe_ix ix_seq (pv 2) (pe_op op_addU (pv 3) pe_int) (fun _ _ => rfl)) pa_nil))))) pss_nil)))
        (pss_one (ps_ret pe_non))), ?_⟩
    walk_at "rd"
    refine r_lenRw hv ?_
    walk_at "rd"
    refine l_R (by omega) (by omega) (fun i σ H' => H' = H ∧ (∀ j x y, j < i → row[j]? = some x → row[j + 1]? = some y → ¬ fuPair W x y) ∧ ∃ y3, σ = [some (.ref pm), some (.ref pt), some v, y3]) ⟨rfl, fun j x y h => absurd h (Nat.not_lt_zero j), none, rfl⟩ (fun i σ H' hi hW => ?_) (fun σ H' hW => ?_)
    · obtain ⟨rfl, hno, y3, rfl⟩ := hW
      obtain ⟨x, hx⟩ : ∃ x, row[i]? = some x := ⟨_, List.getElem?_eq_getElem (by omega)⟩
      obtain ⟨y, hy⟩ : ∃ y, row[i + 1]? = some y := ⟨_, List.getElem?_eq_getElem (by omega)⟩
      have okx := hok x (List.mem_of_getElem? hx)
      have oky := hok y (List.mem_of_getElem? hy)
      have exy : x ≠ y := fun e => by
        subst e
        have := (List.getElem?_inj (by omega) nd).mp (hx.trans hy.symm)
        omega
      walk_at "rd"
      refine r_tyL (sqL hm) ?_
      walk_at "rd"
      refine r_ixRw hv hx fun vx sx => ?_
      walk_at "rd"
      refine r_indexSg (sqL hm) hms sx (mark_first okx).1 (mark_first okx).2 ?_
      walk_at "rd"
      refine r_tyL (sqL hm) ?_
      walk_at "rd"
      rw [show ((i : Nat) : Int) + 1 = ((i + 1 : Nat) : Int) from rfl]
      refine r_ixRw hv hy fun vy sy => ?_
      walk_at "rd"
      refine r_indexSg (sqL hm) hms sy (mark_first oky).1 (mark_first oky).2 ?_
      walk_at "rd"
      refine ⟨pt, U, _, _, rfl, ht, ps_ltW tl okx, ps_ltW tl oky, ?_⟩
      have td := tdB_iff tl okx oky
      cases c : tdB U (ps (Wd.sz W) x) (ps (Wd.sz W) y) with
      | true =>
        walk_at "rd"
        refine ⟨rfl, fun j a' c' hj ha hc => ?_, _, rfl⟩
        by_cases g : j < i
        · exact hno j a' c' g ha hc
        · have : j = i := by omega
          subst this
          rw [hx] at ha
          rw [hy] at hc
          rw [← Option.some.inj ha, ← Option.some.inj hc]
          intro g
          rcases td.mp c with h | h
          · exact g.1 (.inr h)
          · exact g.2 (.inr h)
      | false =>
        have fp : fuPair W x y := by
          constructor
          · intro g
            rcases g with g | g
            · exact exy g
            · rw [td.mpr (.inl g)] at c
              cases c
          · intro g
            rcases g with g | g
            · exact exy g.symm
            · rw [td.mpr (.inr g)] at c
              cases c
        walk_at "rd"
        refine r_ixRw hv hx fun ux tx => ?_
        walk_at "rd"
        rw [show ((i : Nat) : Int) + 1 = ((i + 1 : Nat) : Int) from rfl]
        refine r_ixRw hv hy fun uy ty => ?_
        walk_at "rd"
        refine r_small nsz fun p5 n5 => ?_
        obtain ⟨H5, k5, e5, h5⟩ := nP K (R := SgV K) (S := SgV K) (x := x) (y := y) n5 tx ty
        rw [← k5]
        exact q _ (some (x, y)) H5 e5 h5 ⟨i, hx, hy, fp, hno⟩
    · obtain ⟨rfl, hno, y3, rfl⟩ := hW
      walk_at "rd"
      refine q .non none H' (Same.refl H') rfl fun i x y hi hj => hno i x y ?_ hi hj
      have := (List.getElem?_eq_some_iff.mp hj).1
      omega
end
end K23

namespace K23
open PySem PySem.Spec PyProof.Rows L2 Dk Tl
/-- one step of a reading -/
local macro_rules | `(tactic| walk_at "rd1") => `(tactic| first
  | ((with_reducible refine r_var (v := ?rv) ?rh ?_); (case rh => rfl))
  | with_reducible refine r_c ?_
  | with_reducible refine r_seq ?_
  | with_reducible refine r_asg ?_
  | with_reducible refine r_par ?_
  | with_reducible refine r_gname ?_
  | with_reducible refine r_op ?_
  | with_reducible refine r_forLo ?_
  | with_reducible refine r_forTo ?_
  | with_reducible refine r_forSo ?_
  | with_reducible refine r_forRo ?_
  | with_reducible refine r_forRvo ?_
  | with_reducible refine r_forZo ?_
  | with_reducible refine r_revS ?_
  | with_reducible refine r_lcRo ?_
  | with_reducible refine r_lcLo ?_
  | with_reducible refine r_yes ?_
  | with_reducible refine r_callK0 ?_
  | with_reducible refine r_break ?_
  | with_reducible refine r_forR2o ?_
  | with_reducible refine r_forEo ?_
  | with_reducible refine r_forESo ?_
  | with_reducible refine r_xfo ?_
  | with_reducible refine r_noP ?_
  | with_reducible refine r_part ?_
  | with_reducible refine r_pI ?_
  | with_reducible refine r_gcons ?_
  | with_reducible refine r_gnil ?_
  | with_reducible refine r_mkO ?_
  | with_reducible refine r_un ?_
  | with_reducible refine r_addI ?_
  | with_reducible refine r_I0 ?_
  | with_reducible refine r_U ?_
  | with_reducible refine r_cons ?_
  | with_reducible refine r_nil ?_
  | with_reducible refine r_CB ?_
  | with_reducible refine r_call ?_
  | with_reducible refine r_callS ?_
  | with_reducible refine r_int ?_
  | with_reducible refine r_max ?_
  | with_reducible refine r_min ?_
  | with_reducible refine r_test ?_
  | with_reducible refine r_B ?_
  | with_reducible refine r_blv ?_
  | with_reducible refine r_and ?_
  | with_reducible refine r_or ?_
  | with_reducible refine r_not ?_
  | with_reducible refine r_andV ?_
  | with_reducible refine r_orV ?_
  | with_reducible refine r_notV ?_
  | with_reducible refine r_ifE ?_
  | with_reducible refine r_ifS ?_
  | with_reducible refine r_ret ?_
  | with_reducible refine r_retN ?_
  | with_reducible refine r_drop ?_
  | with_reducible refine r_next ?_
  | with_reducible refine r_sl ?_
  | with_reducible refine r_gsub ?_
  | with_reducible refine r_bm ?_
  | with_reducible refine r_tup ?_
  | with_reducible refine r_lst ?_
  | with_reducible refine r_isN ?_
  | with_reducible refine r_notN ?_
  | with_reducible refine r_chain ?_
  | with_reducible refine r_lcEio ?_
  | with_reducible refine r_forEi ?_
  | with_reducible refine r_lcTo ?_
  | with_reducible refine r_m1 ?_
  | with_reducible refine r_dget ?_
  | with_reducible refine r_din ?_
  | with_reducible refine r_dnotin ?_
  | with_reducible refine r_starC ?_
  | with_reducible refine r_callKS ?_
  | with_reducible refine r_itt ?_
  | with_reducible refine r_iff ?_
  | with_reducible refine r_ittN ?_
  | with_reducible refine r_iffN ?_
  | ((with_reducible refine r_ittD ?rh ?_); (case rh => rfl))
  | ((with_reducible refine r_iffD ?rh ?_); (case rh => rfl))
  | ((with_reducible refine r_modP ?rh ?_); (case rh => decide))
  | ((with_reducible refine r_eq ?rh ?_); (case rh => rfl))
  | ((with_reducible refine r_eqP ?rh ?_); (case rh => rfl))
  | ((with_reducible refine r_ne ?rh ?_); (case rh => rfl)))
local macro_rules | `(tactic| walk_at "rd") => `(tactic| repeat walk_at "rd1")
local macro_rules | `(tactic| walk_at "isi") => `(tactic| first | refine r_isi (b := true) (by assumption) (by decide +kernel) ?_ | refine r_isi (b := false) (by assumption) (by decide +kernel) ?_)
local macro_rules | `(tactic| walk_at "rs1") => `(tactic| first
  | with_reducible refine r_seq ?_
  | with_reducible refine r_asg ?_
  | with_reducible refine r_gname ?_
  | with_reducible refine r_ret ?_)
local macro_rules | `(tactic| walk_at "rs") => `(tactic| repeat walk_at "rs1")

open Wd
/-- the answer to a row or a text -/
def TdV (K : PySem.W.Frag) (H : Hp) (txt : Bool) (z : Str) (row : List Sg) (u : V) (o : Option (Sg × Sg)) : Prop := match o with
  | none => ∃ p r, u = .ref p ∧ H p = some (.tup [.str "let", r]) ∧ (txt = false → TupV K (SgV K) H r row) ∧ (txt = true → r = .str z)
  | some y => ∃ p r1 r2, u = .ref p ∧ H p = some (.tup [.str "refused", r1, r2]) ∧ SgV K H r1 y.1 ∧ SgV K H r2 y.2
theorem TdV.up {K : PySem.W.Frag} {H H' : Hp} {txt : Bool} {z : Str} {row : List Sg} {u : V} {o : Option (Sg × Sg)} (e : Ex H H') (h : TdV K H txt z row u o) : TdV K H' txt z row u o := by
  cases o with
  | none =>
    obtain ⟨p, r, rfl, hp, a1, a2⟩ := h
    exact ⟨p, r, rfl, e _ _ hp, fun z => imm (R := TupV K (SgV K)) (.ex e) (a1 z), a2⟩
  | some z =>
    obtain ⟨p, r1, r2, rfl, hp, a1, a2⟩ := h
    exact ⟨p, r1, r2, rfl, e _ _ hp, imm (R := SgV K) (.ex e) a1, imm (R := SgV K) (.ex e) a2⟩
theorem td_same {K : PySem.W.Frag} {H : Hp} {txt : Bool} {z : Str} {row : List Sg} {u1 u2 : V} {o : Option (Sg × Sg)} {d : Nat} (hl : row.length ≤ 1000) (h1 : TdV K H txt z row u1 o) (h2 : TdV K H txt z row u2 o) : Sm K H (d + 4) u1 u2 := by
  cases o with
  | none =>
    obtain ⟨p, r, rfl, hp, a1, a2⟩ := h1
    obtain ⟨q, s, rfl, hq, b1, b2⟩ := h2
    rw [sm_eq]
    refine .inr (.inr (.inr (.inr (.inl ⟨p, q, _, _, rfl, rfl, .inl hp, .inl hq, Nat.le_trans (show 2 ≤ 1000 by decide) (Nat.le_refl _), .cons str_same (.cons ?_ .nil)⟩))))
    cases txt with
    | false => exact sgs_same (a1 rfl) (b1 rfl) hl
    | true =>
      rw [a2 rfl, b2 rfl]
      exact str_same
  | some y =>
    obtain ⟨p, r1, r2, rfl, hp, a1, a2⟩ := h1
    obtain ⟨q, s1, s2, rfl, hq, b1, b2⟩ := h2
    rw [sm_eq]
    exact .inr (.inr (.inr (.inr (.inl ⟨p, q, _, _, rfl, rfl, .inl hp, .inl hq, Nat.le_trans (show 3 ≤ 1000 by decide) (Nat.le_refl _), .cons str_same (.cons (sg_same (d := d + 1) a1 b1) (.cons (sg_same (d := d + 1) a2 b2) .nil))⟩))))
section
variable {P : Program} {w : World} {K : PySem.W.Frag} {mg : Str → Option Value} {base : Heap}
def spHeard (K : PySem.W.Frag) : Sp := fun vs H Q _ => ∃ (txt : Bool) (b v : V) (W : List Bi) (cts : Cts) (s : Nat), vs = [.bl txt, b, v, .int (s : Nat)] ∧ WdV K H b W ∧ Gw W ∧ CtV K H v cts ∧ Gc cts ∧
  ∀ u o H', Ex H H' → Fu W (ownRow W cts s) o → TdV K H' txt (lettersOf W (ownRow W cts s)) (ownRow W cts s) u o → Q u H'
set_option maxHeartbeats 16000000 in
theorem ok_law_heard (T : Txt K mg) : FnOk P w K mg base CX0 7 T.a_law_heard T.d_law_heard ["_law_letters", "_law_world", "_law_gone", "_law_mask"] (spHeard K) := by
  refine T.F_law_heard.ok sc_law_heard (fun vs H Q E h => ?_) (fun cdv A outer s H vs Q E hr h => ?_)
  · obtain ⟨txt, b, v, W, cts, s, rfl, _⟩ := h
    rfl
  · obtain ⟨txt, b, v, W, cts, s0, rfl, wd, gw, ct, gc, q⟩ := h
    refine ⟨_, (pss_one (ps_try_as (i := 4) rfl rfl sc_law_heard.nd rfl rfl ⟨rfl, by decide, .inl T.g_DeskError⟩ takes0 (fun W pn xe tk hpo => (pss_cons (ps_if (pt_val (pv 0)) (pss_one (ps_ret (pe_tup (pa_cons pe_str (pa_cons (pe_callS (ok_text_of T) hr rfl T.g_text_of T.F_text_of.kp T.b_text_of (fun σ => passAt tk σ) (pa_cons (pv 1) (pa_cons (pv 2) (pa_cons (pv 3) pa_nil)))) pa_nil))))) pss_nil)
        (pss_one (ps_ret (pe_tup (pa_cons pe_str (pa_cons (pe_callS (ok_row_of T) (hr.mono (by decide)) rfl T.g_row_of T.F_row_of.kp T.b_row_of (fun σ => passAt tk σ) (pa_cons (pv 1) (pa_cons (pv 2) (pa_cons (pv 3) pa_nil)))) pa_nil))))))) (fun a oe cls d pn hz hf => (pss_cons (ps_if (pt_not (pt_val (pe_callB (call_isED T.q_Unsettled hz hf) (by rfl) T.n_isinstance (by decide +kernel) (pa_cons (pv 4) (pa_cons (pe_glob (v := .ref T.c_Unsettled) rfl T.g_Unsettled rfl) pa_nil))))) (pss_one (ps_ret (pe_tup (pa_cons pe_str pa_nil)))) pss_nil)
        (pss_one (ps_ret (pe_tup (pa_cons pe_str (pa_cons (pe_xf T.x_Unsettled T.na_Unsettled_one hz hf (pv 4)) (pa_cons (pe_xf T.x_Unsettled T.na_Unsettled_other hz hf (pv 4)) pa_nil)))))))))), ?_⟩
    cases txt with
    | false =>
      walk_at "rd"
      refine ⟨b, v, W, cts, s0, rfl, wd, gw, ct, gc, fun p H1 e1 hfu h1 => ?_, fun a c H1 d va vc e1 hd hfu hx sa sc => ?_⟩
      · walk_at "rd"
        refine r_small nsz fun p2 n2 => ?_
        have e2 : Ex H1 (upd H1 p2 (.tup [.str "let", .ref p])) := Same.new (Same.refl H1) n2
        exact q _ none _ (e1.trans e2) hfu ⟨p2, _, rfl, upd_same, fun _ => imm (R := TupV K (SgV K)) (.ex e2) h1, fun h => nomatch h⟩
      · refine ⟨true, T.e_Unsettled_DeskError, fun _ a0 _ => ?_, fun q => Bool.noConfusion q⟩
        walk_at "rd"
        refine r_isED rfl rfl hx (fun u r => by cases r; rfl) (b := true) (if_pos (beq_self_eq_true _)) ?_
        walk_at "rd"
        refine ⟨rfl, rfl, d, _, _, rfl, hx, rfl, ?_⟩
        walk_at "rd"
        refine ⟨rfl, rfl, d, _, _, rfl, hx, rfl, ?_⟩
        walk_at "rd"
        refine r_small nsz fun p2 n2 => ?_
        obtain ⟨H2, k2, e2, h2⟩ := nL (.tup [.str "refused", va, vc]) n2
        rw [← k2]
        exact q _ (some (a, c)) _ (e1.trans e2) hfu ⟨p2, _, _, rfl, h2, imm (R := SgV K) (.ex e2) sa, imm (R := SgV K) (.ex e2) sc⟩
    | true =>
      walk_at "rd"
      refine ⟨b, v, W, cts, s0, rfl, wd, gw, ct, gc, fun H1 e1 hfu => ?_, fun a c H1 d va vc e1 hd hfu hx sa sc => ?_⟩
      · walk_at "rd"
        refine r_small nsz fun p2 n2 => ?_
        have e2 : Ex H1 (upd H1 p2 (.tup [.str "let", .str (lettersOf W (ownRow W cts s0))])) := Same.new (Same.refl H1) n2
        exact q _ none _ (e1.trans e2) hfu ⟨p2, _, rfl, upd_same, (fun h => nomatch h), fun _ => rfl⟩
      · refine ⟨true, T.e_Unsettled_DeskError, fun _ a0 _ => ?_, fun q => Bool.noConfusion q⟩
        walk_at "rd"
        refine r_isED rfl rfl hx (fun u r => by cases r; rfl) (b := true) (if_pos (beq_self_eq_true _)) ?_
        walk_at "rd"
        refine ⟨rfl, rfl, d, _, _, rfl, hx, rfl, ?_⟩
        walk_at "rd"
        refine ⟨rfl, rfl, d, _, _, rfl, hx, rfl, ?_⟩
        walk_at "rd"
        refine r_small nsz fun p2 n2 => ?_
        obtain ⟨H2, k2, e2, h2⟩ := nL (.tup [.str "refused", va, vc]) n2
        rw [← k2]
        exact q _ (some (a, c)) _ (e1.trans e2) hfu ⟨p2, _, _, rfl, h2, imm (R := SgV K) (.ex e2) sa, imm (R := SgV K) (.ex e2) sc⟩
/-- what is due of a stand -/
def DuV (K : PySem.W.Frag) (H : Hp) (z : Str) (row : List Sg) (u : V) (o : Option (Sg × Sg)) : Prop := ∃ p v1 v2, u = .ref p ∧ H p = some (.tup [.bl o.isNone, v1, v2]) ∧ TdV K H false z row v1 o ∧ TdV K H true z row v2 o
theorem DuV.up {H H' : Hp} {z : Str} {row : List Sg} {u : V} {o : Option (Sg × Sg)} (e : Ex H H') (h : DuV K H z row u o) : DuV K H' z row u o := by
  obtain ⟨p, v1, v2, rfl, hp, a, b⟩ := h
  exact ⟨p, v1, v2, rfl, e _ _ hp, a.up e, b.up e⟩
theorem seen_own {W : List Bi} (gw : Gw W) {lots : Lots} {s : Nat} : (laid W [] W.length).filter (seenB W lots s) = ownRow W (ctsOf W lots) s := by
  have kp := laid_kp gw.wv (ch := []) W.length gw.wv.n0 (Nat.le_refl _)
  exact seen_row fun x hx => (kp.mem x).mp hx
def spDue (K : PySem.W.Frag) : Sp := fun vs H Q _ => ∃ (wv lv : V) (mk tb : Addr) (W : List Bi) (lots : Lots) (U : List Nat) (s : Nat), vs = [wv, lv, .ref mk, .ref tb, .int (s : Nat)] ∧ WdV K H wv W ∧ Gw W ∧ LtV (fun _ => True) K H lv lots ∧ Mt K H (.ref mk) (.ref tb) W U ∧
  ∀ u o H', Ex H H' → Fu W (ownRow W (ctsOf W lots) s) o → DuV K H' (lettersOf W (ownRow W (ctsOf W lots) s)) (ownRow W (ctsOf W lots) s) u o → Q u H'
set_option maxHeartbeats 16000000 in
theorem ok_law_due (T : Txt K mg) : FnOk P w K mg base CX0 3 T.a_law_due T.d_law_due ["_law_world", "_law_lots", "_law_marks", "_law_table", "_law_mask"] (spDue K) := by
  refine T.F_law_due.ok sc_law_due (fun vs H Q E h => ?_) (fun cdv A outer s H vs Q E hr h => ?_)
  · obtain ⟨wv, lv, mk, tb, W, lots, U, s, rfl, _⟩ := h
    rfl
  · obtain ⟨wv, lv, pm, pt, W, lots, U, s0, rfl, wd, gw, lt, mt, q⟩ := h
    refine ⟨_, (pss_cons (ps_set (i := 5) sc_law_due.nd rfl (Or.inl rfl) (pe_call (ok_law_seen T) hr (by rfl) T.g_law_seen T.F_law_seen.kp T.b_law_seen .nil pass0 (pa_cons (pv 0) (pa_cons (pv 1) (pa_cons (pv 4) (pa_cons (pe_call (ok_law_laid T) (hr.mono (by decide)) (by rfl) T.g_law_laid T.F_law_laid.kp T.b_law_laid .nil pass0 (pa_cons (pv 0) (pa_cons (pe_tup pa_nil) pa_nil))) pa_nil))))))
        (pss_cons (ps_setLc (i := 6) (own := [("_law_mark", 9)]) (g := gName 9) rfl sc_law_due.nd rfl rfl (sw_true rfl rfl rfl (by decide +kernel)) (pi_list (pv 5)) (blkOk_by (N := N_law_due) (sc := defScope s_law_due) (by decide +kernel)) (fun _ _ _ _ _ => pg_name (i := 9) sc_law_due.nd rfl (Or.inl rfl)) (fun _ _ _ _ _ => pts_nil) (fun _ _ _ _ _ => (k_bm (K := K) rfl PySem.F.plainAttrs_list PySem.F.slot_list_index PySem.F.type_list_index (k_mtIndex (K := K) rfl hr.units65) (pv 2) (pa_cons (pv 9) pa_nil))))
        (pss_cons (ps_if (pt_not (pt_val (pe_call (ok_law_settled T) hr (by rfl) T.g_law_settled T.F_law_settled.kp T.b_law_settled .nil pass0 (pa_cons (pv 3) (pa_cons (pv 6) pa_nil))))) (pss_cons (ps_set (i := 7) sc_law_due.nd rfl (Or.inl rfl) (pe_call (ok_law_neighbours T) hr (by rfl) T.g_law_neighbours T.F_law_neighbours.kp T.b_law_neighbours .nil pass0 (pa_cons (pv 2) (pa_cons (pv 3) (pa_cons (pv 5) pa_nil)))))
        (pss_one (ps_ret (pe_tup (pa_cons pe_bl (pa_cons (pe_tup (pa_cons pe_str (pa_cons (pe_ix ix_seq (pv 7) pe_int (fun _ _ => rfl)) (pa_cons (pe_ix ix_seq (pv 7) pe_int (fun _ _ => rfl)) pa_nil)))) (pa_cons (pe_tup (pa_cons pe_str (pa_cons (pe_ix ix_seq (pv 7) pe_int (fun _ _ => rfl)) (pa_cons (pe_ix ix_seq (pv 7) pe_int (fun _ _ => rfl)) pa_nil)))) pa_nil))))))) pss_nil)
        (pss_cons (ps_set (i := 8) sc_law_due.nd rfl (Or.inl rfl) (pe_call (ok_law_in_order T) (hr.mono (by decide)) (by rfl) T.g_law_in_order T.F_law_in_order.kp T.b_law_in_order .nil pass0 (pa_cons (pv 2) (pa_cons (pv 3) (pa_cons (pv 6) pa_nil)))))
        (pss_one (ps_ret (pe_tup (pa_cons pe_bl (pa_cons (pe_tup (pa_cons pe_str (pa_cons (pv 8) pa_nil))) (pa_cons (pe_tup (pa_cons pe_str (pa_cons (pe_join pe_str (pe_lc (own := [("_law_mark", 9)]) (g := gName 9) rfl sc_law_due.nd (pi_tup (pv 8)) (blkOk_by (N := N_law_due) (sc := defScope s_law_due) (by decide +kernel)) (fun _ _ _ _ _ => pg_name (i := 9) sc_law_due.nd rfl (Or.inl rfl)) (fun _ _ _ _ _ => pts_nil) (fun _ _ _ _ _ => (pe_ix (k_ix (K := K) rfl) (pe_ix (k_ix (K := K) rfl) (pe_ix (k_ix (K := K) rfl) (pv 0) (pe_ix (k_ix (K := K) rfl) (pv 9) pe_int (fun _ _ => rfl)) (fun _ _ => rfl)) pe_int (fun _ _ => rfl)) (pe_ix (k_ix (K := K) rfl) (pv 9) pe_int (fun _ _ => rfl)) (fun _ _ => rfl))))) pa_nil))) pa_nil)))))))))), ?_⟩
    obtain ⟨⟨pm', ms, e, hm, hms⟩, ⟨pt', e', ht⟩, tl, ul⟩ := id mt
    cases e
    cases e'
    have kp := laid_kp gw.wv (ch := []) W.length gw.wv.n0 (Nat.le_refl _)
    have lok : ∀ x ∈ laid W [] W.length, OkW W x := fun x hx => (kp.mem x).mp hx
    have ll := row_lens gw kp (Nat.le_refl _)
    walk_at "rd"
    refine r_small nsz fun p1 n1 => ?_
    obtain ⟨H1, k1, e1, t1⟩ := nT (R := NumV) K n1 (.nil : P2 (NumV H) [] [])
    rw [← k1]
    walk_at "rd"
    refine ⟨wv, .ref p1, W, [], rfl, imm (R := WdV K) (.ex e1) wd, gw, t1, by decide, fun p2 H2 x2 e2 n2 h2 hx2 => ?_⟩
    have e02 := e1.trans e2
    walk_at "rd"
    refine ⟨_, wv, lv, .ref p2, W, lots, s0, _, rfl, imm (R := WdV K) (.ex e02) wd, lt.up e02, .inr ⟨p2, x2, rfl, h2, hx2⟩, lok, by omega, fun p3 H3 x3 e3 n3 h3 hx3 => ?_⟩
    have e03 := e02.trans e3
    rw [seen_own gw] at hx3
    obtain ⟨ok1, ok2⟩ := own_ok gw (ctsOf W lots) s0
    have pw : (ownRow W (ctsOf W lots) s0).Pairwise (fun x y => ¬ Tl.A (lf W) (rf W) y x ∧ x ≠ y) := (kp_pw kp).filter _
    obtain ⟨R, hR⟩ : ∃ R, ownRow W (ctsOf W lots) s0 = R := ⟨_, rfl⟩
    rw [hR] at hx3 ok1 ok2 pw q
    have okR : ∀ x ∈ R, OkW W x := fun x hx => (ok1 x hx).1
    have ndR : R.Nodup := pw.imp fun h => h.2
    have xl := hx3.len
    walk_at "rd"
    refine l_lcL (sqL h3) (fun D i H' => Ex H3 H' ∧ H' D = some (.lst (tbv ((R.take i).map (ps (Wd.sz W)))))) (fun D hD => ⟨Same.new (Same.refl H3) hD, upd_same⟩) (fun D i H' hW => sqL (hW.1 _ _ h3)) (fun D i x H' hD hi hW => ?_) (fun D H4 hD hW => ?_)
    · obtain ⟨e, ha⟩ := hW
      obtain ⟨y, hy, sy⟩ := hx3.get hi
      have oky := okR y (List.mem_of_getElem? hy)
      have il := (List.getElem?_eq_some_iff.mp hy).1
      walk_at "rd"
      refine ⟨rfl, ?_⟩
      walk_at "rd"
      refine r_tyL (sqL ((e03.trans e) _ _ hm)) ?_
      walk_at "rd"
      refine r_indexSg (sqL ((e03.trans e) _ _ hm)) (p2_imm (.ex (e03.trans e)) hms) (imm (R := SgV K) (.ex e) sy) (mark_first oky).1 (mark_first oky).2 ?_
      refine ⟨_, ha, Nat.lt_of_le_of_lt (show _ ≤ 1000 by rw [List.length_map, List.length_map, List.length_take]; omega) (by decide), Same.mut e hD, ?_⟩
      rw [upd_same, List.take_add_one, hy, List.map_append]
      exact congrArg (fun z => some (HO.lst z)) (tb_app ((R.take i).map (ps (Wd.sz W))) [ps (Wd.sz W) y]).symm
    obtain ⟨e4, h4⟩ := hW
    rw [xl, List.take_length] at h4
    have e04 := e03.trans e4
    walk_at "rd"
    refine ⟨pt, D, U, R.map (ps (Wd.sz W)), rfl, e04 _ _ ht, h4, fun a ha => ?_, by rw [List.length_map]; omega, fun c hc => ?_⟩
    · obtain ⟨x, hx, rfl⟩ := List.mem_map.mp ha
      exact ps_ltW tl (okR x hx)
    have hc : c = true ↔ AllT W R := by
      rw [hc]
      constructor
      · intro h i j x y ij hx hy
        have := h i j _ _ ij (by rw [List.getElem?_map, hx]; rfl) (by rw [List.getElem?_map, hy]; rfl)
        exact (tdB_iff tl (okR x (List.mem_of_getElem? hx)) (okR y (List.mem_of_getElem? hy))).mp this
      · intro h i j a b' ij ha hb
        obtain ⟨x, hx, rfl⟩ := pos_ps ha
        obtain ⟨y, hy, rfl⟩ := pos_ps hb
        exact (tdB_iff tl (okR x (List.mem_of_getElem? hx)) (okR y (List.mem_of_getElem? hy))).mpr (h i j x y ij hx hy)
    cases c with
    | false =>
      walk_at "rd"
      refine ⟨.ref pm, .ref pt, .ref p3, W, U, R, rfl, gw, mt.up e04, .inr ⟨p3, x3, rfl, e4 _ _ h3, p2_imm (.ex e4) hx3⟩, okR, ndR, by omega, fun u o H5 e5 hu hf => ?_⟩
      cases o with
      | none =>
        exfalso
        have := hc.mpr (pw_allT (nei_pw gw okR fun i x y hx hy => by
          have := hf i x y hx hy
          unfold fuPair at this
          rcases Classical.not_and_iff_not_or_not.mp this with z | z
          · rcases Classical.not_not.mp z with z | z
            · exact absurd z (pw_at pw hx hy (Nat.lt_succ_self _)).2
            · exact z
          · rcases Classical.not_not.mp z with z | z
            · exact absurd z.symm (pw_at pw hx hy (Nat.lt_succ_self _)).2
            · exact absurd z (pw_at pw hx hy (Nat.lt_succ_self _)).1))
        cases this
      | some z =>
        have hu : SpV K H5 u z := hu
        walk_at "rd"
        refine r_ixP0 hu fun v1 s1 => ?_
        walk_at "rd"
        refine r_ixP1 hu fun v2 s2 => ?_
        walk_at "rd"
        refine r_small nsz fun p6 n6 => ?_
        obtain ⟨H6, k6, e6, h6⟩ := nL (.tup [.str "refused", v1, v2]) n6
        rw [← k6]
        have hu6 := imm (R := SpV K) (.ex e6) hu
        walk_at "rd"
        refine r_ixP0 hu6 fun v3 s3 => ?_
        walk_at "rd"
        refine r_ixP1 hu6 fun v4 s4 => ?_
        walk_at "rd"
        refine r_small nsz fun p7 n7 => ?_
        obtain ⟨H7, k7, e7, h7⟩ := nL (.tup [.str "refused", v3, v4]) n7
        rw [← k7]
        walk_at "rd"
        refine r_small nsz fun p8 n8 => ?_
        obtain ⟨H8, k8, e8, h8⟩ := nL (.tup [.bl false, .ref p6, .ref p7]) n8
        rw [← k8]
        refine q _ (some z) H8 ((((e04.trans e5).trans e6).trans e7).trans e8) hf ⟨p8, _, _, rfl, h8, ⟨p6, v1, v2, rfl, e8 _ _ (e7 _ _ h6), imm (R := SgV K) (.ex ((e6.trans e7).trans e8)) s1, imm (R := SgV K) (.ex ((e6.trans e7).trans e8)) s2⟩, ⟨p7, v3, v4, rfl, e8 _ _ h7, imm (R := SgV K) (.ex (e7.trans e8)) s3, imm (R := SgV K) (.ex (e7.trans e8)) s4⟩⟩
    | true =>
      have pwA := allT_pw pw (hc.mp rfl)
      walk_at "rd"
      refine ⟨pm, pt, D, W, U, R, rfl, mt.up e04, h4, okR, by omega, gw, pwA, fun p5 H5 e5 t5 => ?_⟩
      walk_at "rd"
      refine r_small nsz fun p6 n6 => ?_
      obtain ⟨H6, k6, e6, h6⟩ := nL (.tup [.str "let", .ref p5]) n6
      rw [← k6]
      have t6 := imm (R := TupV K (SgV K)) (.ex e6) t5
      obtain ⟨p5', x6, epp, hp6, hx6⟩ := id t6
      cases epp
      have e06 := (e04.trans e5).trans e6
      have xl6 := hx6.len
      walk_at "rd"
      refine ⟨⟨_, rfl⟩, ?_⟩
      walk_at "rd"
      refine l_lcT hp6.sq (fun D i H' => Ex H6 H' ∧ H' D = some (.lst (((R.take i).map fun x => (⟨#[letterOf W x]⟩ : Str)).map V.str))) (fun D hD => ⟨Same.new (Same.refl H6) hD, upd_same⟩) (fun D i H' hW => (hp6.up hW.1).sq) (fun D i x H' hD hi hW => ?_) (fun D H7 hD hW => ?_)
      · obtain ⟨e, ha⟩ := hW
        obtain ⟨z, hz, sv⟩ := hx6.get hi
        have il := (List.getElem?_eq_some_iff.mp hi).1
        obtain ⟨okz, z0⟩ := ok1 z (List.mem_of_getElem? hz)
        obtain ⟨bi, hb⟩ := okz.at
        have tl := gw.tl bi (List.mem_of_getElem? hb)
        have ok2' := okz.2
        rw [sz_at z0 hb] at ok2'
        obtain ⟨c, hc⟩ : ∃ c, (cs bi.t)[z.2]? = some c := ⟨_, List.getElem?_eq_getElem (by rw [cs_len]; exact ok2')⟩
        have sv' := imm (R := SgV K) (.ex e) sv
        walk_at "rd"
        refine ⟨rfl, ?_⟩
        walk_at "rd"
        refine r_ixS0 sv' ?_
        walk_at "rd"
        refine r_bi (imm (R := WdV K) (.ex (e06.trans e)) wd) hb fun ub hub => ?_
        walk_at "rd"
        refine r_biT hub ?_
        walk_at "rd"
        refine r_ixS1 sv' ?_
        walk_at "rd"
        refine r_ixS (by rw [sizeLine_eq]; omega) (atI_nat hc) ?_
        refine ⟨_, ha, by rw [List.length_map, List.length_map, List.length_take]; exact Nat.lt_of_le_of_lt (show min i R.length ≤ 1000 by omega) (by decide), Same.mut e hD, ?_⟩
        rw [upd_same, List.take_add_one, hz]
        have el : letterOf W z = c := by unfold letterOf; rw [hb]; show ((cs bi.t)[z.2]?).getD 0 = c; rw [hc]; rfl
        simp [el]
      · obtain ⟨e7, ha⟩ := hW
        rw [xl6, List.take_length] at ha
        have one : ∀ y ∈ (R.map fun x => (⟨#[letterOf W x]⟩ : Str)), y.length = 1 := fun y hy => by
          obtain ⟨x, _, rfl⟩ := List.mem_map.mp hy
          rfl
        walk_at "rd"
        refine ⟨"", D, _, rfl, rfl, .inl (sqL ha), ?_, ?_⟩
        · rw [sum_len one, List.length_map, show ("" : Str).length = 0 from rfl]
          omega
        · walk_at "rd"
          refine r_small nsz fun p8 n8 => ?_
          obtain ⟨H8, k8, e8, h8⟩ := nL (.tup [.str "let", .str (Txt.join "" (R.map fun x => (⟨#[letterOf W x]⟩ : Str)))]) n8
          rw [← k8]
          walk_at "rd"
          refine r_small nsz fun p9 n9 => ?_
          obtain ⟨H9, k9, e9, h9⟩ := nL (.tup [.bl true, .ref p6, .ref p8]) n9
          rw [← k9]
          have e69 := (e7.trans e8).trans e9
          refine q _ none H9 (e06.trans e69) (fun i x y hx hy g => g.1 (.inr (pw_at pwA hx hy (Nat.lt_succ_self _)))) ⟨p9, _, _, rfl, h9, ⟨p6, _, rfl, e69 _ _ h6, fun _ => imm (R := TupV K (SgV K)) (.ex e69) t6, fun z => nomatch z⟩, ⟨p8, _, rfl, e9 _ _ h8, (fun z => nomatch z), fun _ => rfl⟩⟩
end
end K23

namespace K23
open PySem PySem.Spec PyProof.Rows L2 Dk Tl
/-- one step of a reading -/
local macro_rules | `(tactic| walk_at "rd1") => `(tactic| first
  | ((with_reducible refine r_var (v := ?rv) ?rh ?_); (case rh => rfl))
  | with_reducible refine r_c ?_
  | with_reducible refine r_seq ?_
  | with_reducible refine r_asg ?_
  | with_reducible refine r_par ?_
  | with_reducible refine r_gname ?_
  | with_reducible refine r_op ?_
  | with_reducible refine r_forLo ?_
  | with_reducible refine r_forTo ?_
  | with_reducible refine r_forSo ?_
  | with_reducible refine r_forRo ?_
  | with_reducible refine r_forRvo ?_
  | with_reducible refine r_forZo ?_
  | with_reducible refine r_revS ?_
  | with_reducible refine r_lcRo ?_
  | with_reducible refine r_lcLo ?_
  | with_reducible refine r_yes ?_
  | with_reducible refine r_callK0 ?_
  | with_reducible refine r_break ?_
  | with_reducible refine r_forR2o ?_
  | with_reducible refine r_forEo ?_
  | with_reducible refine r_forESo ?_
  | with_reducible refine r_xfo ?_
  | with_reducible refine r_noP ?_
  | with_reducible refine r_part ?_
  | with_reducible refine r_pI ?_
  | with_reducible refine r_gcons ?_
  | with_reducible refine r_gnil ?_
  | with_reducible refine r_mkO ?_
  | with_reducible refine r_un ?_
  | with_reducible refine r_addI ?_
  | with_reducible refine r_I0 ?_
  | with_reducible refine r_U ?_
  | with_reducible refine r_cons ?_
  | with_reducible refine r_nil ?_
  | with_reducible refine r_CB ?_
  | with_reducible refine r_call ?_
  | with_reducible refine r_callS ?_
  | with_reducible refine r_int ?_
  | with_reducible refine r_max ?_
  | with_reducible refine r_min ?_
  | with_reducible refine r_test ?_
  | with_reducible refine r_B ?_
  | with_reducible refine r_blv ?_
  | with_reducible refine r_and ?_
  | with_reducible refine r_or ?_
  | with_reducible refine r_not ?_
  | with_reducible refine r_andV ?_
  | with_reducible refine r_orV ?_
  | with_reducible refine r_notV ?_
  | with_reducible refine r_ifE ?_
  | with_reducible refine r_ifS ?_
  | with_reducible refine r_ret ?_
  | with_reducible refine r_retN ?_
  | with_reducible refine r_drop ?_
  | with_reducible refine r_next ?_
  | with_reducible refine r_sl ?_
  | with_reducible refine r_gsub ?_
  | with_reducible refine r_bm ?_
  | with_reducible refine r_tup ?_
  | with_reducible refine r_lst ?_
  | with_reducible refine r_isN ?_
  | with_reducible refine r_notN ?_
  | with_reducible refine r_chain ?_
  | with_reducible refine r_lcEio ?_
  | with_reducible refine r_forEi ?_
  | with_reducible refine r_lcTo ?_
  | with_reducible refine r_m1 ?_
  | with_reducible refine r_dget ?_
  | with_reducible refine r_din ?_
  | with_reducible refine r_dnotin ?_
  | with_reducible refine r_starC ?_
  | with_reducible refine r_callKS ?_
  | with_reducible refine r_itt ?_
  | with_reducible refine r_iff ?_
  | with_reducible refine r_ittN ?_
  | with_reducible refine r_iffN ?_
  | ((with_reducible refine r_ittD ?rh ?_); (case rh => rfl))
  | ((with_reducible refine r_iffD ?rh ?_); (case rh => rfl))
  | ((with_reducible refine r_modP ?rh ?_); (case rh => decide))
  | ((with_reducible refine r_eq ?rh ?_); (case rh => rfl))
  | ((with_reducible refine r_eqP ?rh ?_); (case rh => rfl))
  | ((with_reducible refine r_ne ?rh ?_); (case rh => rfl)))
local macro_rules | `(tactic| walk_at "rd") => `(tactic| repeat walk_at "rd1")
local macro_rules | `(tactic| walk_at "isi") => `(tactic| first | refine r_isi (b := true) (by assumption) (by decide +kernel) ?_ | refine r_isi (b := false) (by assumption) (by decide +kernel) ?_)
local macro_rules | `(tactic| walk_at "rs1") => `(tactic| first
  | with_reducible refine r_seq ?_
  | with_reducible refine r_asg ?_
  | with_reducible refine r_gname ?_
  | with_reducible refine r_ret ?_)
local macro_rules | `(tactic| walk_at "rs") => `(tactic| repeat walk_at "rs1")

open Wd
theorem tsg_shaped (m : List Sg) : SeqAt.shaped (.tuple (m.map sgD)) = true := by
  have key : PyData.canLayAll0 (m.map sgD) = true ∧ PyData.depthAll (m.map sgD) ≤ 2 := by
    induction m with
    | nil => exact ⟨rfl, by decide⟩
    | cons x r ih =>
      refine ⟨?_, ?_⟩
      · show ((sgD x).canLay0 && PyData.canLayAll0 (r.map sgD)) = true
        rw [ih.1]
        rfl
      · show max (sgD x).depth (PyData.depthAll (r.map sgD)) ≤ 2
        have e : (sgD x).depth ≤ 2 := by simp [sgD, PyData.depth, PyData.depthAll]
        omega
  show (PyData.canLayAll0 (m.map sgD) && decide (_ ≤ 64)) = true
  rw [key.1]
  have e : (PyData.tuple (m.map sgD)).depth = PyData.depthAll (m.map sgD) + 1 := by first | rfl | exact Nat.add_comm _ _
  show decide (_ ≤ 64) = true
  rw [decide_eq_true_iff, e]
  omega
theorem tsg_eqv (m : List Sg) : PyData.eqv (.tuple (m.map sgD)) (.tuple (m.map sgD)) = true := by
  show PyData.eqvAll (m.map sgD) (m.map sgD) = true
  induction m with
  | nil => rfl
  | cons x r ih =>
    show (PyData.eqv (sgD x) (sgD x) && PyData.eqvAll (r.map sgD) (r.map sgD)) = true
    rw [ih, sg_eqv, decide_eq_true rfl]
    rfl
theorem r_neSgs {K : PySem.W.Frag} {H : Hp} {Q : VK} {v u : V} {row : List Sg} (h1 : TupV K (SgV K) H v row) (h2 : TupV K (SgV K) H u row) (q : Q (.bl false) H) : rNeU K v u H Q := by
  obtain ⟨p, xs, rfl, hp, hx⟩ := h1
  obtain ⟨p2, ys, rfl, hq, hy⟩ := h2
  refine .inr ⟨_, _, .tup hp.sq (SgL.dps hx), .tup hq.sq (SgL.dps hy), tsg_shaped row, tsg_shaped row, ?_⟩
  rw [tsg_eqv]
  exact q
section
variable {P : Program} {w : World} {K : PySem.W.Frag} {mg : Str → Option Value} {base : Heap}
def spHolds (K : PySem.W.Frag) : Sp := fun vs H Q _ => ∃ (wv gv du : V) (W : List Bi) (cts : Cts) (s : Nat) (z : Str) (row : List Sg) (o : Option (Sg × Sg)), vs = [wv, gv, .int (s : Nat), du] ∧ WdV K H wv W ∧ Gw W ∧ CtV K H gv cts ∧ Gc cts ∧ ownRow W cts s = row ∧ lettersOf W row = z ∧ Fu W row o ∧ DuV K H z row du o ∧
  ∀ H', Ex H H' → Q (.bl true) H'
theorem ok_law_holds (T : Txt K mg) : FnOk P w K mg base CX0 8 T.a_law_holds T.d_law_holds ["_law_world", "_law_gone", "_law_mask", "_law_due_here"] (spHolds K) := by
  refine T.F_law_holds.ok sc_law_holds (fun vs H Q E h => ?_) (fun cdv A outer s H vs Q E hr h => ?_)
  · obtain ⟨wv, gv, du, W, cts, s, z, row, o, rfl, _⟩ := h
    rfl
  · obtain ⟨wv, gv, du, W, cts, s0, z, row, o, rfl, wd, gw, ct, gc, hrow, hz, hf, hd, q⟩ := h
    refine ⟨_, (pss_cons (ps_if (pt_not (pt_val (pe_call (ok_law_same T) (hr.mono (by decide)) (by rfl) T.g_law_same T.F_law_same.kp T.b_law_same .nil pass0 (pa_cons (pe_call (ok_is_settled T) (hr.mono (by decide)) (by rfl) T.g_is_settled T.F_is_settled.kp T.b_is_settled .nil pass0 (pa_cons (pv 0) (pa_cons (pv 1) (pa_cons (pv 2) pa_nil)))) (pa_cons (pe_ix ix_seq (pv 3) pe_int (fun _ _ => rfl)) pa_nil))))) (pss_one (ps_ret pe_bl)) pss_nil)
        (pss_cons (ps_set (i := 4) sc_law_holds.nd rfl (Or.inl rfl) (pe_tup (pa_cons (pe_call (ok_law_heard T) hr (by rfl) T.g_law_heard T.F_law_heard.kp T.b_law_heard .nil pass0 (pa_cons pe_bl (pa_cons (pv 0) (pa_cons (pv 1) (pa_cons (pv 2) pa_nil))))) (pa_cons (pe_call (ok_law_heard T) hr (by rfl) T.g_law_heard T.F_law_heard.kp T.b_law_heard .nil pass0 (pa_cons pe_bl (pa_cons (pv 0) (pa_cons (pv 1) (pa_cons (pv 2) pa_nil))))) pa_nil))))
        (pss_one (ps_ret (pe_call (ok_law_same T) (hr.mono (by decide)) (by rfl) T.g_law_same T.F_law_same.kp T.b_law_same .nil pass0 (pa_cons (pv 4) (pa_cons (pe_tup (pa_cons (pe_ix ix_seq (pv 3) pe_int (fun _ _ => rfl)) (pa_cons (pe_ix ix_seq (pv 3) pe_int (fun _ _ => rfl)) pa_nil))) pa_nil))))))), ?_⟩
    obtain ⟨_, ok2⟩ := own_ok gw cts s0
    rw [hrow] at ok2
    obtain ⟨pd, v1, v2, rfl, hp, d1, d2⟩ := hd
    walk_at "rd"
    refine ⟨wv, gv, W, cts, s0, rfl, wd, gw, ct, gc, fun c o1 H1 e1 hf1 hc => ?_⟩
    rw [hrow] at hf1
    obtain rfl := hf.det hf1
    walk_at "rd"
    refine r_ixT (sqT (e1 _ _ hp)) (atI_nat (j := 0) rfl) ?_
    have ec : c = o.isNone := by
      cases o with
      | none => exact hc.mpr rfl
      | some y =>
        cases c with
        | false => rfl
        | true => cases hc.mp rfl
    rw [ec]
    walk_at "rd"
    refine ⟨_, _, rfl, sm_bl, fun H2 e2 => ?_⟩
    have e02 := e1.trans e2
    walk_at "rd"
    refine ⟨false, wv, gv, W, cts, s0, rfl, imm (R := WdV K) (.ex e02) wd, gw, ct.up e02, gc, fun u3 o3 H3 e3 hf3 t3 => ?_⟩
    rw [hrow] at hf3 t3
    rw [hz] at t3
    obtain rfl := hf.det hf3
    have e03 := e02.trans e3
    walk_at "rd"
    refine ⟨true, wv, gv, W, cts, s0, rfl, imm (R := WdV K) (.ex e03) wd, gw, ct.up e03, gc, fun u4 o4 H4 e4 hf4 t4 => ?_⟩
    rw [hrow] at hf4 t4
    rw [hz] at t4
    obtain rfl := hf.det hf4
    have e04 := e03.trans e4
    walk_at "rd"
    refine r_small nsz fun p5 n5 => ?_
    obtain ⟨H5, k5, e5, h5⟩ := nL (.tup [u3, u4]) n5
    rw [← k5]
    walk_at "rd"
    refine r_ixT (sqT ((e04.trans e5) _ _ hp)) (atI_nat (j := 1) rfl) ?_
    walk_at "rd"
    refine r_ixT (sqT ((e04.trans e5) _ _ hp)) (atI_nat (j := 2) rfl) ?_
    walk_at "rd"
    refine r_small nsz fun p6 n6 => ?_
    obtain ⟨H6, k6, e6, h6⟩ := nL (.tup [v1, v2]) n6
    rw [← k6]
    have e06 := (e04.trans e5).trans e6
    refine ⟨_, _, rfl, ?_, fun H7 e7 => q H7 (e06.trans e7)⟩
    rw [sm_eq]
    exact .inr (.inr (.inr (.inr (.inl ⟨p5, p6, _, _, rfl, rfl, .inl (e6 _ _ h5), .inl h6, Nat.le_trans (show 2 ≤ 1000 by decide) (Nat.le_refl _), .cons (td_same (d := 1) (by omega) (t3.up ((e4.trans e5).trans e6)) (d1.up e06)) (.cons (td_same (d := 1) (by omega) (t4.up (e5.trans e6)) (d2.up e06)) .nil)⟩))))
/-- the rows that keepers show of one stand -/
theorem rows_alike {W : List Bi} (gw : Gw W) {cts : Cts} {s : Nat} {ch : List Int} {o : Option (Sg × Sg)} (hf : Fu W (ownRow W cts s) o) : (∀ o2, Fu W ((laid W ch W.length).filter (Wd.shown W cts s)) o2 → o2.isNone = o.isNone) ∧ (o = none → (laid W ch W.length).filter (Wd.shown W cts s) = ownRow W cts s) := by
  have k0 := laid_kp gw.wv (ch := []) W.length gw.wv.n0 (Nat.le_refl _)
  have k1 := laid_kp gw.wv (ch := ch) W.length gw.wv.n0 (Nat.le_refl _)
  have p0 : (ownRow W cts s).Pairwise (fun x y => ¬ A (lf W) (rf W) y x ∧ x ≠ y) := (kp_pw k0).filter _
  have p1 : ((laid W ch W.length).filter (Wd.shown W cts s)).Pairwise (fun x y => ¬ A (lf W) (rf W) y x ∧ x ≠ y) := (kp_pw k1).filter _
  have mem : ∀ x, x ∈ (laid W ch W.length).filter (Wd.shown W cts s) ↔ x ∈ ownRow W cts s := fun x => by
    unfold ownRow
    rw [List.mem_filter, List.mem_filter, k0.mem, k1.mem]
  have ok0 : ∀ x ∈ ownRow W cts s, OkW W x := fun x hx => (k0.mem x).mp (List.mem_filter.mp hx).1
  have ok1 : ∀ x ∈ (laid W ch W.length).filter (Wd.shown W cts s), OkW W x := fun x hx => ok0 x ((mem x).mp hx)
  have toPw : ∀ {row : List Sg}, (∀ x ∈ row, OkW W x) → row.Pairwise (fun x y => ¬ A (lf W) (rf W) y x ∧ x ≠ y) → Fu W row none → row.Pairwise (A (lf W) (rf W)) := fun {row} ok pw hf => nei_pw gw ok fun i x y hx hy => by
    have := hf i x y hx hy
    unfold fuPair at this
    rcases Classical.not_and_iff_not_or_not.mp this with z | z
    · rcases Classical.not_not.mp z with z | z
      · exact absurd z (pw_at pw hx hy (Nat.lt_succ_self _)).2
      · exact z
    · rcases Classical.not_not.mp z with z | z
      · exact absurd z.symm (pw_at pw hx hy (Nat.lt_succ_self _)).2
      · exact absurd z (pw_at pw hx hy (Nat.lt_succ_self _)).1
  have fuOf : ∀ {row : List Sg}, row.Pairwise (A (lf W) (rf W)) → Fu W row none := fun {row} pw i x y hx hy g => g.1 (.inr (pw_at pw hx hy (Nat.lt_succ_self _)))
  -- all told is the same of both
  have move : ∀ {r1 r2 : List Sg}, (∀ x, x ∈ r1 ↔ x ∈ r2) → r1.Pairwise (A (lf W) (rf W)) → r2.Pairwise (fun x y => ¬ A (lf W) (rf W) y x ∧ x ≠ y) → r2.Pairwise (A (lf W) (rf W)) := fun {r1 r2} mem pw1 pw2 => by
    refine List.Pairwise.imp_of_mem (fun {x y} hx hy h => ?_) pw2
    obtain ⟨i, hi⟩ := List.getElem?_of_mem ((mem x).mpr hx)
    obtain ⟨j, hj⟩ := List.getElem?_of_mem ((mem y).mpr hy)
    rcases Nat.lt_trichotomy i j with c | c | c
    · exact pw_at pw1 hi hj c
    · subst c
      exact absurd (Option.some.inj (hi.symm.trans hj)) h.2
    · exact absurd (pw_at pw1 hj hi c) h.1
  have asym : ∀ x ∈ (laid W ch W.length).filter (Wd.shown W cts s), ∀ y ∈ (laid W ch W.length).filter (Wd.shown W cts s), A (lf W) (rf W) x y → ¬ A (lf W) (rf W) y x := fun x hx y hy => A.asym gw (ok1 x hx) (ok1 y hy)
  cases o with
  | none =>
    have a0 := toPw ok0 p0 hf
    have a1 := move (fun x => (mem x).symm) a0 p1
    refine ⟨fun o2 hf2 => ?_, fun _ => pw_eq a1 a0 mem asym⟩
    obtain rfl := (fuOf a1).det hf2
    rfl
  | some z =>
    refine ⟨fun o2 hf2 => ?_, fun h => nomatch h⟩
    cases o2 with
    | some z2 => rfl
    | none =>
      have a1 := toPw ok1 p1 hf2
      have a0 := move mem a1 p0
      have := (fuOf a0).det hf
      cases this
def spKeepers (K : PySem.W.Frag) : Sp := fun vs H Q _ => ∃ (wv lv du : V) (mk tb pk : Addr) (W : List Bi) (lots : Lots) (U : List Nat) (s : Nat) (ks : List V) (chs : List (List Int)) (z : Str) (o : Option (Sg × Sg)), vs = [wv, lv, .ref mk, .ref tb, .int (s : Nat), .ref pk, du] ∧ WdV K H wv W ∧ Gw W ∧ LtV (fun _ => True) K H lv lots ∧ Gtl W lots ∧ Mt K H (.ref mk) (.ref tb) W U ∧
  H pk = some (.lst ks) ∧ P2 (fun v ch => TupV K (SgV K) H v (laid W ch W.length)) ks chs ∧ Fu W (ownRow W (ctsOf W lots) s) o ∧ DuV K H z (ownRow W (ctsOf W lots) s) du o ∧
  ∀ H', Ex H H' → Q (.bl true) H'
set_option maxHeartbeats 16000000 in
theorem ok_law_keepers (T : Txt K mg) : FnOk P w K mg base CX0 7 T.a_law_keepers T.d_law_keepers ["_law_world", "_law_lots", "_law_marks", "_law_table", "_law_mask", "_law_laid_here", "_law_due_here"] (spKeepers K) := by
  refine T.F_law_keepers.ok sc_law_keepers (fun vs H Q E h => ?_) (fun cdv A outer s H vs Q E hr h => ?_)
  · obtain ⟨wv, lv, du, mk, tb, pk, W, lots, U, s, ks, chs, z, o, rfl, _⟩ := h
    rfl
  · obtain ⟨wv, lv, du, pm, pt, pk, W, lots, U, s0, ks, chs, z, o, rfl, wd, gw, lt, gt, mt, hk, hks, hf, hd, q⟩ := h
    refine ⟨_, (pss_cons (ps_set (i := 7) sc_law_keepers.nd rfl (Or.inl rfl) (pe_call (ok_law_cuts T) (hr.mono (by decide)) (by rfl) T.g_law_cuts T.F_law_cuts.kp T.b_law_cuts .nil pass0 (pa_cons (pv 0) (pa_cons (pv 1) pa_nil))))
        (pss_cons (ps_for PassesOwn.never rfl (pi_list (pv 5)) (pg_name (i := 8) sc_law_keepers.nd rfl (Or.inl rfl)) (pss_cons (ps_set (i := 9) sc_law_keepers.nd rfl (Or.inl rfl) (pe_callTy call_tupU (by rfl) T.n_tuple (by decide +kernel) (pa_cons (pe_call (ok_law_seen T) (hr.mono (by decide)) (by rfl) T.g_law_seen T.F_law_seen.kp T.b_law_seen .nil pass0 (pa_cons (pv 0) (pa_cons (pv 1) (pa_cons (pv 4) (pa_cons (pv 8) pa_nil))))) pa_nil)))
        (Evl.pss_cut (ps_if (PW.pt (pw_or (pt_not (pt_val (pe_call (ok_law_same T) hr (by rfl) T.g_law_same T.F_law_same.kp T.b_law_same .nil pass0 (pa_cons (pe_call (ok_shown_by T) (hr.mono (by decide)) (by rfl) T.g_shown_by T.F_shown_by.kp T.b_shown_by .nil pass0 (pa_cons (pv 0) (pa_cons (pv 7) (pa_cons (pv 8) (pa_cons (pv 4) pa_nil))))) (pa_cons (pv 9) pa_nil))))) (pw_or1 (PW.pt (pw_and (pt_val (pe_ix ix_seq (pv 6) pe_int (fun _ _ => rfl))) (pw_and1 (pt_cmpR (op_neU hr.units) (pv 9) (pe_ix ix_seq (pe_ix ix_seq (pv 6) pe_int (fun _ _ => rfl)) pe_int (fun _ _ => rfl)) (nomark _)))))))) (pss_one (ps_ret pe_bl)) pss_nil)
        (pss_cons (ps_set (i := 10) sc_law_keepers.nd rfl (Or.inl rfl) (pe_call (ok_first_untold T) (hr.mono (by decide)) (by rfl) T.g_first_untold T.F_first_untold.kp T.b_first_untold .nil pass0 (pa_cons (pv 0) (pa_cons (pv 9) pa_nil))))
        (pss_one (ps_if (PW.pt (pw_or (pt_cmpR (op_neU hr.units) (pe_cmpR op_isU (pv 10) pe_non (nomark _)) (pe_ix ix_seq (pv 6) pe_int (fun _ _ => rfl)) (nomark _)) (pw_or1 (pt_not (pt_val (pe_call (ok_law_same T) hr (by rfl) T.g_law_same T.F_law_same.kp T.b_law_same .nil pass0 (pa_cons (pv 10) (pa_cons (pe_call (ok_law_neighbours T) (hr.mono (by decide)) (by rfl) T.g_law_neighbours T.F_law_neighbours.kp T.b_law_neighbours .nil pass0 (pa_cons (pv 2) (pa_cons (pv 3) (pa_cons (pv 9) pa_nil)))) pa_nil)))))))) (pss_one (ps_ret pe_bl)) pss_nil))))))
        (pss_one (ps_ret pe_bl)))), ?_⟩
    have gc := gc_of gw gt.nd gt.few gt.mk9
    walk_at "rd"
    refine ⟨_, wv, lv, W, lots, rfl, wd, gw, lt, gt, fun dg H1 e1 ndg ct => ?_⟩
    walk_at "rd"
    refine l_L (sqL (e1 _ _ hk)) (fun i σ H' => Ex H1 H' ∧ ∃ y8 y9 y10, σ = [some wv, some lv, some (.ref pm), some (.ref pt), some (.int (s0 : Nat)), some (.ref pk), some du, some (.ref dg), y8, y9, y10]) ⟨Same.refl H1, none, none, none, rfl⟩ (fun i σ H' hW => sqL (hW.1 _ _ (e1 _ _ hk))) (fun i v σ H2 hv hW => ?_) (fun σ H' hW => ?_)
    · obtain ⟨e2, y8, y9, y10, rfl⟩ := hW
      have e02 := e1.trans e2
      obtain ⟨ch, _, tk0⟩ := hks.get hv
      have tk := imm (R := TupV K (SgV K)) (.ex e02) tk0
      have kp := laid_kp gw.wv (ch := ch) W.length gw.wv.n0 (Nat.le_refl _)
      have lok : ∀ x ∈ laid W ch W.length, OkW W x := fun x hx => (kp.mem x).mp hx
      have ll := row_lens gw kp (Nat.le_refl _)
      walk_at "rd"
      refine ⟨_, wv, lv, v, W, lots, s0, _, rfl, imm (R := WdV K) (.ex e02) wd, lt.up e02, .inl tk, lok, by omega, fun p3 H3 x3 e3 n3 h3 hx3 => ?_⟩
      rw [seen_row lok] at hx3
      walk_at "rd"
      refine r_tupLV (R := SgV K) h3 hx3 fun p4 H4 n4 e4 t4 => ?_
      have e04 := (e02.trans e3).trans e4
      have e24 := e3.trans e4
      obtain ⟨R, hR⟩ : ∃ R, (laid W ch W.length).filter (Wd.shown W (ctsOf W lots) s0) = R := ⟨_, rfl⟩
      have Rl : R.length ≤ 800 := by rw [← hR]; exact Nat.le_trans (List.length_filter_le ..) ll
      have okR : ∀ x ∈ R, OkW W x := fun x hx => by rw [← hR] at hx; exact lok x (List.mem_filter.mp hx).1
      have ndR : R.Nodup := by rw [← hR]; exact kp.nd.filter _
      obtain ⟨al1, al2⟩ := rows_alike gw (ch := ch) hf
      obtain ⟨pd, v1, v2, rfl, hp, d1, d2⟩ := id hd
      rw [hR] at t4 al1 al2
      walk_at "rd"
      refine ⟨fun σ H6 => Ex H4 H6 ∧ σ = [some wv, some lv, some (.ref pm), some (.ref pt), some (.int (s0 : Nat)), some (.ref pk), some (.ref pd), some (.ref dg), some v, some (.ref p4), y10], ?_, ?_⟩
      · walk_at "rd"
        refine ⟨wv, .ref dg, v, W, _, s0, _, rfl, imm (R := WdV K) (.ex e04) wd, ct.up (e2.trans e24), gc, imm (R := TupV K (SgV K)) (.ex e24) tk, lok, by omega, fun p5 H5 e5 t5 => ?_⟩
        rw [hR] at t5
        walk_at "rd"
        refine ⟨_, _, rfl, sgs_same (d := 3) t5 (imm (R := TupV K (SgV K)) (.ex e5) t4) (by omega), fun H6 e6 => ?_⟩
        have e46 := e5.trans e6
        have e06 := e04.trans e46
        have t6 := imm (R := TupV K (SgV K)) (.ex e46) t4
        have hp6 := e06 _ _ hp
        walk_at "rd"
        refine r_ixT (sqT hp6) (atI_nat (j := 0) rfl) ?_
        cases o with
        | some y =>
          walk_at "rd"
          exact ⟨e46, rfl⟩
        | none =>
          obtain ⟨pl, r, rfl, hpl, a1, _⟩ := id d1
          walk_at "rd"
          refine r_ixT (sqT hp6) (atI_nat (j := 1) rfl) ?_
          walk_at "rd"
          refine r_ixT (sqT (e06 _ _ hpl)) (atI_nat (j := 1) rfl) ?_
          walk_at "rd"
          have a1 := imm (R := TupV K (SgV K)) (.ex e06) (a1 rfl)
          rw [← al2 rfl] at a1
          refine r_neSgs t6 a1 ?_
          walk_at "rd"
          exact ⟨e46, rfl⟩
      rintro σ H6 ⟨e46, rfl⟩
      have e06 := e04.trans e46
      have t6 := imm (R := TupV K (SgV K)) (.ex e46) t4
      walk_at "rd"
      refine ⟨wv, .ref p4, W, R, rfl, imm (R := WdV K) (.ex e06) wd, gw, t6, okR, fun u7 o7 H7 e7 hu7 hf7 => ?_⟩
      have e07 := e06.trans e7
      walk_at "rd"
      refine r_ixT (sqT (e07 _ _ hp)) (atI_nat (j := 0) rfl) ?_
      have en : decide (u7 = V.non) = o.isNone := by
        rw [← al1 o7 hf7]
        cases o7 with
        | none => rw [show u7 = V.non from hu7]; rfl
        | some y =>
          obtain ⟨py, _, _, e9, _⟩ := (show SpV K H7 u7 y from hu7)
          rw [decide_eq_false (show ¬ u7 = V.non from fun g => by rw [e9] at g; cases g)]
          rfl
      walk_at "rd"
      rw [en, ne_blb, bne_self_eq_false]
      walk_at "rd"
      refine ⟨.ref pm, .ref pt, .ref p4, W, U, R, rfl, gw, mt.up e07, .inl (imm (R := TupV K (SgV K)) (.ex e7) t6), okR, ndR, by omega, fun u8 o8 H8 e8 hu8 hf8 => ?_⟩
      obtain rfl := hf7.det hf8
      walk_at "rd"
      refine ⟨_, _, rfl, op_same (d := 3) (hu7.up e8) hu8, fun H9 e9 => ?_⟩
      walk_at "rd"
      exact ⟨((((e2.trans e24).trans e46).trans e7).trans e8).trans e9, _, _, _, rfl⟩
    · obtain ⟨e, y8, y9, y10, rfl⟩ := hW
      walk_at "rd"
      exact q _ (e1.trans e)
def spChoices (K : PySem.W.Frag) : Sp := fun vs H Q _ => ∃ (b h : Addr) (n : Nat), vs = [.ref b, .int (n : Nat)] ∧ Bx H b h ∧ n ≤ 100 ∧ ∀ p H' ch, Dr2 b h H H' → TupV K NumV H' (.ref p) ch → ch.length = n → Q (.ref p) H'
theorem ok_law_choices (T : Txt K mg) : FnOk P w K mg base CX0 2 T.a_law_choices T.d_law_choices ["_law_box", "_law_many"] (spChoices K) := by
  refine T.F_law_choices.ok sc_law_choices (fun vs H Q E h => ?_) (fun cdv A outer s H vs Q E hr h => ?_)
  · obtain ⟨b, h, n, rfl, _⟩ := h
    rfl
  · obtain ⟨b, h, n, rfl, bx, n100, q⟩ := h
    refine ⟨_, (pss_one (ps_ret (pe_callTy call_tupU (by rfl) T.n_tuple (by decide +kernel) (pa_cons (pe_lc (own := [("_law_k", 2)]) (g := gName 2) rfl sc_law_choices.nd (pi_range1 (by rfl) T.n_range (pa_cons (pv 1) pa_nil)) (blkOk_by (N := N_law_choices) (sc := defScope s_law_choices) (by decide +kernel)) (fun _ _ _ _ _ => pg_name (i := 2) sc_law_choices.nd rfl (Or.inl rfl)) (fun _ _ _ _ _ => pts_nil) (fun _ _ _ _ _ => (pe_op op_sub (pe_call (ok_law_pick T) hr (by rfl) T.g_law_pick T.F_law_pick.kp T.b_law_pick .nil pass0 (pa_cons (pv 0) (pa_cons pe_int pa_nil))) pe_int))) pa_nil)))), ?_⟩
    walk_at "rd"
    refine l_lcR (by omega) (by omega) (fun D i H' => Dr2 b h H H' ∧ ∃ acc ch, H' D = some (.lst acc) ∧ P2 (NumV H') acc ch ∧ ch.length = i) (fun D hD => ⟨(Dr2.refl bx).new hD, [], [], upd_same, .nil, rfl⟩) (fun D i H' hD hi hW => ?_) (fun D H' hD hW => ?_)
    · obtain ⟨Dc, acc, ch, ha, hA, len⟩ := hW
      have al := hA.len
      walk_at "rd"
      refine ⟨rfl, ?_⟩
      walk_at "rd"
      refine ⟨b, h, 9, rfl, Dc.st, by decide, by decide, fun x H4 x0 x1 D4 => ?_⟩
      walk_at "rd"
      have nb := bx.nb hD
      have nh := bx.nh hD
      have ha4 := D4.hh _ _ nb nh ha
      have tp := Tk.put (o := .lst (acc ++ [V.int (x - 3)])) ha4
      have hB : P2 (NumV H4) acc ch := hA.imp fun _ _ z => z
      exact ⟨acc, ha4, Nat.lt_of_le_of_lt (show acc.length ≤ 1000 by omega) (by decide), (Dc.trans D4).mut hD nb nh, acc ++ [V.int (x - 3)], ch ++ [x - 3], upd_same, (p2_imm (R := NumV) tp hB).snoc (show NumV _ (V.int (x - 3)) (x - 3) from rfl), by rw [List.length_append, len]; rfl⟩
    · obtain ⟨Dc, acc, ch, ha, hA, len⟩ := hW
      walk_at "rd"
      refine r_tupLV (R := NumV) ha hA fun p H5 n5 e5 t5 => ?_
      exact q p H5 ch (Dc.then e5) t5 (by omega)
def spStands : Sp := fun vs H Q _ => ∃ (k many : Nat), vs = [.int (many : Nat), .int (k : Nat)] ∧ many ≤ 5 ∧ ∀ p H' ms, Ex H H' → H p = none → H' p = some (.lst (tbv ms)) → ms.length ≤ 32 → (∀ m ∈ ms, ∀ j, m.testBit j = true → ∃ e, 1 ≤ e ∧ e ≤ 5 ∧ j = numf k e) → Q (.ref p) H'
theorem one_bit (x d : Nat) : ∃ q : Nat, q < 2 ∧ Builtin.bitAnd ((x : Int) / 2 ^ ((d : Int)).toNat) 1 = ((q : Nat) : Int) := by
  have e : Builtin.bitAnd ((x : Int) / 2 ^ ((d : Int)).toNat) 1 = (x : Int) / 2 ^ d % 2 := by
    have z := Bits.bit_at (x := (x : Int)) d
    have hp : (0 : Int) ≤ 2 ^ d := Int.pow_nonneg (by decide)
    rw [Int.fdiv_eq_ediv_of_nonneg _ hp] at z
    rw [Int.toNat_natCast]
    exact z
  refine ⟨x / 2 ^ d % 2, Nat.mod_lt _ (by decide), ?_⟩
  rw [e]
  push_cast
  rfl
theorem or_bit (m q d : Nat) (hq : q < 2) : ∃ m' : Nat, Builtin.bitOr ((m : Nat) : Int) (((q : Nat) : Int) * 2 ^ ((d : Nat) : Int).toNat) = ((m' : Nat) : Int) ∧ ∀ j, m'.testBit j = true → m.testBit j = true ∨ j = d := by
  have : q = 0 ∨ q = 1 := by omega
  rcases this with rfl | rfl
  · refine ⟨m ||| 0, ?_, fun j h => .inl (by simpa using h)⟩
    rw [show (((0 : Nat) : Nat) : Int) * 2 ^ ((d : Nat) : Int).toNat = 0 from Int.zero_mul _, Bits.bitOr_pp (Int.natCast_nonneg _) (Int.le_refl 0), Int.toNat_natCast]
    rfl
  · refine ⟨_, or1_val m d, fun j h => ?_⟩
    rw [Nat.testBit_or, bit_shl, Bool.or_eq_true, decide_eq_true_iff] at h
    exact h
theorem ok_law_stands (T : Txt K mg) : FnOk P w K mg base CX0 2 T.a_law_stands T.d_law_stands ["_law_many", "_law_kind"] spStands := by
  refine T.F_law_stands.ok sc_law_stands (fun vs H Q E h => ?_) (fun cdv A outer s H vs Q E hr h => ?_)
  · obtain ⟨k, many, rfl, _⟩ := h
    rfl
  · obtain ⟨k, many, rfl, m5, q⟩ := h
    refine ⟨_, (pss_cons (ps_set (i := 2) sc_law_stands.nd rfl (Or.inl rfl) (pe_lst pa_nil))
        (pss_cons (ps_for PassesOwn.never rfl (pi_range1 (by rfl) T.n_range (pa_cons (pe_op op_shl pe_int (pv 0)) pa_nil)) (pg_name (i := 3) sc_law_stands.nd rfl (Or.inl rfl)) (pss_cons (ps_set (i := 4) sc_law_stands.nd rfl (Or.inl rfl) pe_int)
        (pss_cons (ps_for PassesOwn.never rfl (pi_range1 (by rfl) T.n_range (pa_cons (pv 0) pa_nil)) (pg_name (i := 5) sc_law_stands.nd rfl (Or.inl rfl)) (pss_one (ps_set (i := 4) sc_law_stands.nd rfl (Or.inl rfl) (pe_op op_or (pv 4) (pe_op op_shl (pe_op op_and (pe_op op_shr (pv 3) (pv 5)) pe_int) (pe_call (ok_law_num T) hr (by rfl) T.g_law_num T.F_law_num.kp T.b_law_num .nil pass0 (pa_cons (pv 1) (pa_cons (pe_op op_addU (pv 5) pe_int) pa_nil))))))))
        (pss_one (ps_expr (pe_bm PySem.F.plainAttrs_list PySem.F.slot_list_append PySem.F.type_list_append mt_append (pv 2) (pa_cons (pv 4) pa_nil)))))))
        (pss_one (ps_ret (pv 2))))), ?_⟩
    walk_at "rd"
    refine r_small nsz fun pl nl => ?_
    obtain ⟨H1, k1, e1, h1⟩ := nL (.lst []) nl
    rw [← k1]
    walk_at "rd"
    refine r_I ⟨by omega, by omega, by decide⟩ ?_
    walk_at "rd"
    obtain ⟨nn, hnn, nn32⟩ : ∃ nn : Nat, (1 : Int) * 2 ^ ((many : Nat) : Int).toNat = ((nn : Nat) : Int) ∧ nn ≤ 32 := by
      refine ⟨1 <<< many, shl_cast many, ?_⟩
      have c : many = 0 ∨ many = 1 ∨ many = 2 ∨ many = 3 ∨ many = 4 ∨ many = 5 := by omega
      rcases c with rfl | rfl | rfl | rfl | rfl | rfl <;> decide
    rw [hnn]
    refine l_R (by omega) (by omega) (fun n σ H' => ∃ ms y3 y4 y5, σ = [some (.int (many : Nat)), some (.int (k : Nat)), some (.ref pl), y3, y4, y5] ∧ Ex H H' ∧ H' pl = some (.lst (tbv ms)) ∧ ms.length = n ∧ (∀ m ∈ ms, ∀ j, m.testBit j = true → ∃ e, 1 ≤ e ∧ e ≤ 5 ∧ j = numf k e)) ⟨[], none, none, none, rfl, e1, h1, rfl, fun m hm => absurd hm List.not_mem_nil⟩ (fun n σ H' hn hW => ?_) (fun σ H' hW => ?_)
    · obtain ⟨ms, y3, y4, y5, rfl, e, hl, len, hb⟩ := hW
      walk_at "rd"
      refine l_R (by omega) (by omega) (fun d σ H2 => H2 = H' ∧ ∃ (m : Nat) (y5 : Option V), σ = [some (.int (many : Nat)), some (.int (k : Nat)), some (.ref pl), some (.int (n : Nat)), some (.int (m : Nat)), y5] ∧ ∀ j, m.testBit j = true → ∃ e, 1 ≤ e ∧ e ≤ 5 ∧ j = numf k e) ⟨rfl, 0, y5, rfl, (fun j h => by rw [Nat.zero_testBit] at h; cases h)⟩ (fun d σ H2 hd hW => ?_) (fun σ H2 hW => ?_)
      · obtain ⟨rfl, m, y5, rfl, hm⟩ := hW
        walk_at "rd"
        refine r_I (by omega) ?_
        walk_at "rd"
        rw [show ((d : Nat) : Int) + 1 = ((d + 1 : Nat) : Int) from rfl]
        refine ⟨k, d + 1, rfl, by omega, by omega, ?_⟩
        obtain ⟨u1, u2⟩ := numf_lt (k := k) (d := d + 1) (by omega) (by omega)
        obtain ⟨x, x2, hx⟩ := one_bit n d
        rw [hx]
        walk_at "rd"
        refine r_I ⟨by omega, by omega, by omega⟩ ?_
        walk_at "rd"
        obtain ⟨m', hm', bm⟩ := or_bit m x (numf k (d + 1)) x2
        rw [hm']
        refine ⟨rfl, m', _, rfl, fun j hj => ?_⟩
        rcases bm j hj with z | z
        · exact hm j z
        · exact ⟨d + 1, by omega, by omega, z⟩
      · obtain ⟨rfl, m, y5, rfl, hm⟩ := hW
        walk_at "rd"
        refine r_tyL (sqL hl) ?_
        walk_at "rd"
        refine r_app hl (Nat.lt_of_le_of_lt (show (tbv ms).length ≤ 1000 by rw [List.length_map]; omega) (by decide)) ?_
        refine ⟨ms ++ [m], _, _, _, rfl, Same.mut e nl, by rw [upd_same, tb_app]; rfl, by rw [List.length_append, len]; rfl, fun x hx => ?_⟩
        rcases List.mem_append.mp hx with hx | hx
        · exact hb x hx
        · rw [List.mem_singleton.mp hx]
          exact hm
    · obtain ⟨ms, y3, y4, y5, rfl, e, hl, len, hb⟩ := hW
      walk_at "rd"
      exact q pl H' ms e nl hl (by rw [len, Int.toNat_natCast]; exact nn32) hb
end
end K23

namespace K23
open PySem PySem.Spec PyProof.Rows L2 Dk Tl
/-- one step of a reading -/
local macro_rules | `(tactic| walk_at "rd1") => `(tactic| first
  | ((with_reducible refine r_var (v := ?rv) ?rh ?_); (case rh => rfl))
  | with_reducible refine r_c ?_
  | with_reducible refine r_seq ?_
  | with_reducible refine r_asg ?_
  | with_reducible refine r_par ?_
  | with_reducible refine r_gname ?_
  | with_reducible refine r_op ?_
  | with_reducible refine r_forLo ?_
  | with_reducible refine r_forTo ?_
  | with_reducible refine r_forSo ?_
  | with_reducible refine r_forRo ?_
  | with_reducible refine r_forRvo ?_
  | with_reducible refine r_forZo ?_
  | with_reducible refine r_revS ?_
  | with_reducible refine r_lcRo ?_
  | with_reducible refine r_lcLo ?_
  | with_reducible refine r_yes ?_
  | with_reducible refine r_callK0 ?_
  | with_reducible refine r_break ?_
  | with_reducible refine r_forR2o ?_
  | with_reducible refine r_forEo ?_
  | with_reducible refine r_forESo ?_
  | with_reducible refine r_xfo ?_
  | with_reducible refine r_noP ?_
  | with_reducible refine r_part ?_
  | with_reducible refine r_pI ?_
  | with_reducible refine r_gcons ?_
  | with_reducible refine r_gnil ?_
  | with_reducible refine r_mkO ?_
  | with_reducible refine r_un ?_
  | with_reducible refine r_addI ?_
  | with_reducible refine r_I0 ?_
  | with_reducible refine r_U ?_
  | with_reducible refine r_cons ?_
  | with_reducible refine r_nil ?_
  | with_reducible refine r_CB ?_
  | with_reducible refine r_call ?_
  | with_reducible refine r_callS ?_
  | with_reducible refine r_int ?_
  | with_reducible refine r_max ?_
  | with_reducible refine r_min ?_
  | with_reducible refine r_test ?_
  | with_reducible refine r_B ?_
  | with_reducible refine r_blv ?_
  | with_reducible refine r_and ?_
  | with_reducible refine r_or ?_
  | with_reducible refine r_not ?_
  | with_reducible refine r_andV ?_
  | with_reducible refine r_orV ?_
  | with_reducible refine r_notV ?_
  | with_reducible refine r_ifE ?_
  | with_reducible refine r_ifS ?_
  | with_reducible refine r_ret ?_
  | with_reducible refine r_retN ?_
  | with_reducible refine r_drop ?_
  | with_reducible refine r_next ?_
  | with_reducible refine r_sl ?_
  | with_reducible refine r_gsub ?_
  | with_reducible refine r_bm ?_
  | with_reducible refine r_tup ?_
  | with_reducible refine r_lst ?_
  | with_reducible refine r_isN ?_
  | with_reducible refine r_notN ?_
  | with_reducible refine r_chain ?_
  | with_reducible refine r_lcEio ?_
  | with_reducible refine r_forEi ?_
  | with_reducible refine r_lcTo ?_
  | with_reducible refine r_m1 ?_
  | with_reducible refine r_dget ?_
  | with_reducible refine r_din ?_
  | with_reducible refine r_dnotin ?_
  | with_reducible refine r_starC ?_
  | with_reducible refine r_callKS ?_
  | with_reducible refine r_itt ?_
  | with_reducible refine r_iff ?_
  | with_reducible refine r_ittN ?_
  | with_reducible refine r_iffN ?_
  | ((with_reducible refine r_ittD ?rh ?_); (case rh => rfl))
  | ((with_reducible refine r_iffD ?rh ?_); (case rh => rfl))
  | ((with_reducible refine r_modP ?rh ?_); (case rh => decide))
  | ((with_reducible refine r_eq ?rh ?_); (case rh => rfl))
  | ((with_reducible refine r_eqP ?rh ?_); (case rh => rfl))
  | ((with_reducible refine r_ne ?rh ?_); (case rh => rfl)))
local macro_rules | `(tactic| walk_at "rd") => `(tactic| repeat walk_at "rd1")
local macro_rules | `(tactic| walk_at "isi") => `(tactic| first | refine r_isi (b := true) (by assumption) (by decide +kernel) ?_ | refine r_isi (b := false) (by assumption) (by decide +kernel) ?_)
local macro_rules | `(tactic| walk_at "rs1") => `(tactic| first
  | with_reducible refine r_seq ?_
  | with_reducible refine r_asg ?_
  | with_reducible refine r_gname ?_
  | with_reducible refine r_ret ?_)
local macro_rules | `(tactic| walk_at "rs") => `(tactic| repeat walk_at "rs1")

open Wd
/-! ### chains of chunks -/
structure ChW (W : List Bi) : Prop where
  gw : Gw W
  w0 : W[0]? = some ⟨0, (0, 0), (0, 1), ""⟩
  at_ : ∀ c b, 0 < c → W[c]? = some b → b.who = 1 + c % 3 ∧ b.l = (c - 1, 0) ∧ b.r = (0, 1) ∧ b.t.length = 1
  few : off (Wd.sz W) W.length ≤ 1 + W.length
theorem ChW.one : ChW [⟨0, (0, 0), (0, 1), ""⟩] := ⟨gw_one, rfl, fun c b c0 h => by
  have := (List.getElem?_eq_some_iff.mp h).1
  have : c < 1 := this
  omega, by show 0 + 2 ≤ 1 + 1; decide⟩
section
variable {W : List Bi} (h : ChW W)
include h
theorem ChW.len0 : 0 < W.length := h.gw.wv.n0
theorem ChW.get {c : Nat} (c0 : 0 < c) (cn : c < W.length) : ∃ b, W[c]? = some b ∧ b.who = 1 + c % 3 ∧ b.l = (c - 1, 0) ∧ b.r = (0, 1) ∧ b.t.length = 1 := ⟨_, List.getElem?_eq_getElem cn, h.at_ c _ c0 (List.getElem?_eq_getElem cn)⟩
theorem ChW.ok {c : Nat} (cn : c < W.length) : OkW W (c, 0) := by
  refine ⟨cn, ?_⟩
  show 0 < Wd.sz W c
  rcases Nat.eq_zero_or_pos c with z | z
  · rw [z, sz0]; decide
  · obtain ⟨b, hb, _, _, _, ht⟩ := h.get z cn
    rw [sz_at z hb, ht]
    decide
theorem ChW.lt_end {c : Nat} (cn : c < W.length) : A (lf W) (rf W) (c, 0) (0, 1) := en_A h.gw _ (c, 0) (Nat.lt_succ_self _) (h.ok cn) (fun e => by cases (Prod.mk.inj e).2)
theorem ChW.step {t : Str} (ht : t.length = 1) (hn : W.length < 200) : ChW (W ++ [⟨1 + W.length % 3, (W.length - 1, 0), (0, 1), t⟩]) where
  gw := gw_snocT h.gw (h.ok (by have := h.len0; omega)) ⟨h.len0, by show 1 < Wd.sz W 0; rw [sz0]; decide⟩ (h.lt_end (by have := h.len0; omega)) (by show 0 < t.length; omega) (by show t.length ≤ 12; omega) (show 1 + W.length % 3 < 300 by omega) (by omega) (by have := h.few; show _ + t.length ≤ 750; omega)
  w0 := by rw [snoc_old h.gw.wv.n0]; exact h.w0
  at_ := fun c b c0 hb => by
    have lt := (List.getElem?_eq_some_iff.mp hb).1
    rw [len_snoc] at lt
    rcases Nat.lt_or_ge c W.length with z | z
    · rw [snoc_old z] at hb
      exact h.at_ c b c0 hb
    · have : c = W.length := by omega
      subst this
      rw [snoc_new] at hb
      rw [← Option.some.inj hb]
      exact ⟨rfl, rfl, rfl, ht⟩
  few := by
    rw [sz_snoc h.len0, len_snoc]
    show off (upn (Wd.sz W) W.length t.length) W.length + upn (Wd.sz W) W.length t.length W.length ≤ _
    rw [off_upn, upd_at]
    have := h.few
    omega
theorem ChW.lf_at {c : Nat} (c0 : 0 < c) (cn : c < W.length) : lf W c = (c - 1, 0) := by
  obtain ⟨b, hb, _, hl, _⟩ := h.get c0 cn
  rw [Wd.lf_at hb, hl]
theorem ChW.rf_at {c : Nat} (c0 : 0 < c) (cn : c < W.length) : rf W c = (0, 1) := by
  obtain ⟨b, hb, _, _, hr, _⟩ := h.get c0 cn
  rw [Wd.rf_at hb, hr]
theorem ChW.lt : ∀ {j i : Nat}, i < j → j < W.length → A (lf W) (rf W) (i, 0) (j, 0)
  | 0, i, h1, _ => absurd h1 (Nat.not_lt_zero i)
  | j + 1, i, h1, h2 => by
    refine (A.l_iff (x := (i, 0)) (y := (j + 1, 0)) h1).mpr ?_
    show E (lf W) (rf W) (i, 0) (lf W (j + 1))
    rw [h.lf_at (c := j + 1) (Nat.succ_pos j) h2, Nat.add_sub_cancel]
    rcases Nat.lt_or_ge i j with z | z
    · exact .inr (ChW.lt z (by omega))
    · exact .inl (by rw [show i = j by omega])
abbrev chL (n : Nat) : List Sg := (List.range n).map fun i => (i, 0)
omit h in
theorem chL_at {n i : Nat} (hi : i < n) : (chL n)[i]? = some (i, 0) := by
  rw [List.getElem?_map, List.getElem?_range hi]
  rfl
theorem ChW.laid : ∀ k, 0 < k → k ≤ W.length → Wd.laid W [] k = chL k ++ [(0, 1)]
  | 0, h0, _ => absurd h0 (Nat.lt_irrefl _)
  | 1, _, _ => rfl
  | k + 2, _, hk => by
    have ih := ChW.laid (k + 1) (Nat.succ_pos _) (by omega)
    have kp := laid_kp h.gw.wv (ch := []) (k + 1) (Nat.succ_pos _) (by omega)
    obtain ⟨b, hb, _, hl, hr, ht⟩ := h.get (c := k + 1) (Nat.succ_pos _) (by omega)
    have i1 : (Wd.laid W [] (k + 1)).idxOf (lf W (k + 1)) = k := by
      rw [h.lf_at (c := k + 1) (Nat.succ_pos _) (by omega), Nat.add_sub_cancel]
      refine nd_idx kp.nd ?_
      rw [ih, List.getElem?_append_left (by simp)]
      exact chL_at (Nat.lt_succ_self _)
    show Wd.laid W [] (k + 1 + 1) = _
    rw [laid_succ (W := W) (n := k + 1) (Nat.succ_pos _), i1, ih]
    have c0 : chc [] (k + 1) = 0 := rfl
    rw [c0, Int.zero_emod]
    show Wd.putIn W (chL (k + 1) ++ [(0, 1)]) (k + 1) (k + 1) = _
    unfold Wd.putIn Tl.rowOf
    rw [sz_at (Nat.succ_pos _) hb, ht]
    have l1 : (chL (k + 1)).length = k + 1 := by simp
    rw [List.take_append_of_le_length (by omega), List.take_of_length_le (by omega), List.drop_append_of_le_length (by omega), List.drop_of_length_le (by omega)]
    show chL (k + 1) ++ [(k + 1, 0)] ++ ([] ++ [(0, 1)]) = chL (k + 1 + 1) ++ [(0, 1)]
    rw [List.nil_append]
    unfold chL
    rw [List.range_succ (n := k + 1), List.map_append]
    rfl
end
section
variable {W : List Bi} {m : Nat} (h : ChW W) (hm : m + 1 < W.length) (hn : W.length < 205)
abbrev flat (W : List Bi) (m : Nat) : List Bi := W ++ [⟨4, (m, 0), (0, 1), "yz"⟩]
include h hm hn
theorem flat_gw : Gw (flat W m) := gw_snocT h.gw (h.ok (by omega)) ⟨h.len0, by show 1 < Wd.sz W 0; rw [sz0]; decide⟩ (h.lt_end (by omega)) (by show 0 < 2; decide) (by show 2 ≤ 12; decide) (show 4 < 300 by decide) (by omega) (by have := h.few; show _ + 2 ≤ 750; omega)
theorem flat_laid : Wd.laid (flat W m) [] (flat W m).length = (0, 0) :: (((chL W.length).drop 1).take m ++ ([(W.length, 0), (W.length, 1)] ++ (((chL W.length).drop 1).drop m ++ [(0, 1)]))) := by
  have kp := laid_kp h.gw.wv (ch := []) W.length h.len0 (Nat.le_refl _)
  have hl := h.laid W.length h.len0 (Nat.le_refl _)
  have l1 : (chL W.length).length = W.length := by simp
  have i1 : (Wd.laid W [] W.length).idxOf (m, 0) = m := by
    refine nd_idx kp.nd ?_
    rw [hl, List.getElem?_append_left (by omega)]
    exact chL_at (by omega)
  unfold flat
  rw [len_snoc, laid_succ h.len0, laid_old _ (Nat.le_refl _) h.len0 h.len0, lf_snoc, upd_at, i1]
  rw [show chc [] W.length = 0 from rfl, Int.zero_emod]
  show Wd.putIn _ _ _ (m + 1) = _
  unfold Wd.putIn Tl.rowOf
  rw [sz_snoc h.len0, upd_at, hl, List.take_append_of_le_length (by omega), List.drop_append_of_le_length (by omega)]
  have e1 : (chL W.length).take (m + 1) = (0, 0) :: ((chL W.length).drop 1).take m := by
    have c : chL W.length = (0, 0) :: (chL W.length).drop 1 := by
      have := List.getElem?_eq_some_iff.mp (chL_at (n := W.length) (i := 0) h.len0)
      obtain ⟨a, b⟩ := this
      have := List.drop_eq_getElem_cons (l := chL W.length) (i := 0) a
      rw [List.drop_zero, b] at this
      exact this
    conv => lhs; rw [c]
    rfl
  have e2 : (chL W.length).drop (m + 1) = ((chL W.length).drop 1).drop m := by rw [List.drop_drop, Nat.add_comm]
  rw [e1, e2]
  show (0, 0) :: _ ++ (List.range 2).map _ ++ _ = _
  rw [show List.range 2 = [0, 1] from rfl]
  simp
theorem flat_who {c : Nat} (c0 : 0 < c) (cn : c < W.length) : whoOf (flat W m) c = 1 + c % 3 := by
  obtain ⟨b, hb, hw, _⟩ := h.get c0 cn
  unfold flat
  rw [who_old cn, who_at hb, hw]
theorem flat_mem {x : Sg} (hx : x ∈ (chL W.length).drop 1) : 0 < x.1 ∧ x.1 < W.length ∧ x.2 = 0 := by
  obtain ⟨i, hi⟩ := List.getElem?_of_mem hx
  rw [List.getElem?_drop] at hi
  have l := (List.getElem?_eq_some_iff.mp hi).1
  rw [List.length_map, List.length_range] at l
  rw [chL_at l] at hi
  rw [← Option.some.inj hi]
  exact ⟨by show 0 < 1 + i; omega, l, rfl⟩
theorem flat_show {s : Nat} {b3 b4 : Bool} (h1 : s.testBit 1 = b3) (h2 : s.testBit 2 = b3) (h3 : s.testBit 3 = b3) (h4 : s.testBit 4 = b4) : ownRow (flat W m) [] s = (if b3 then ((chL W.length).drop 1).take m else []) ++ ((if b4 then [(W.length, 0), (W.length, 1)] else []) ++ (if b3 then ((chL W.length).drop 1).drop m else [])) := by
  have v0 : ∀ i, Wd.shown (flat W m) [] s (0, i) = false := fun i => rfl
  have vn : ∀ i, Wd.shown (flat W m) [] s (W.length, i) = b4 := fun i => by
    unfold Wd.shown
    rw [decide_eq_true (show 0 < W.length from h.len0)]
    show (true && (s.testBit (whoOf (flat W m) W.length) && !false)) = b4
    unfold flat
    rw [who_new]
    show (true && (s.testBit 4 && !false)) = b4
    rw [h4]
    cases b4 <;> rfl
  have vc : ∀ x ∈ (chL W.length).drop 1, Wd.shown (flat W m) [] s x = b3 := fun x hx => by
    obtain ⟨x0, xn, _⟩ := flat_mem h hm hn hx
    unfold Wd.shown
    rw [decide_eq_true x0]
    show (true && (s.testBit (whoOf (flat W m) x.1) && !false)) = b3
    rw [flat_who h hm hn x0 xn]
    have c : x.1 % 3 = 0 ∨ x.1 % 3 = 1 ∨ x.1 % 3 = 2 := by omega
    rcases c with c | c | c <;> rw [c]
    · rw [h1]; cases b3 <;> rfl
    · rw [h2]; cases b3 <;> rfl
    · rw [h3]; cases b3 <;> rfl
  have fl : ∀ l : List Sg, (∀ x ∈ l, Wd.shown (flat W m) [] s x = b3) → l.filter (Wd.shown (flat W m) [] s) = if b3 then l else [] := fun l hl => by
    cases b3 with
    | true => exact List.filter_eq_self.mpr hl
    | false => exact List.filter_eq_nil_iff.mpr fun x hx g => by rw [hl x hx] at g; cases g
  unfold ownRow
  rw [flat_laid h hm hn, List.filter_cons_of_neg (by rw [v0]; decide), List.filter_append, List.filter_append, List.filter_append, fl _ fun x hx => vc x (List.mem_of_mem_take hx), fl _ fun x hx => vc x (List.mem_of_mem_drop hx)]
  have e0 : ([(0, 1)] : List Sg).filter (Wd.shown (flat W m) [] s) = [] := by rw [List.filter_cons_of_neg (by rw [v0]; decide)]; rfl
  rw [e0, List.append_nil]
  congr 2
  have vx : ∀ x ∈ [(W.length, 0), (W.length, 1)], Wd.shown (flat W m) [] s x = b4 := fun x hx => by
    rcases List.mem_cons.mp hx with e | hx
    · rw [e]; exact vn 0
    · rw [List.mem_singleton.mp hx]; exact vn 1
  cases b4 with
  | true => exact List.filter_eq_self.mpr vx
  | false =>
    refine List.filter_eq_nil_iff.mpr fun x hx g => ?_
    rw [vx x hx] at g
    cases g
theorem flat_A {i j : Nat} (ij : i < j) (jn : j < W.length) : A (lf (flat W m)) (rf (flat W m)) (i, 0) (j, 0) := A_up h.gw (show i < W.length by omega) jn (h.lt ij jn)
theorem M_at {i : Nat} (hi : i + 1 < W.length) : ((chL W.length).drop 1)[i]? = some (i + 1, 0) := by
  rw [List.getElem?_drop, Nat.add_comm, chL_at hi]
theorem M_len : ((chL W.length).drop 1).length = W.length - 1 := by simp
theorem flat14 : ownRow (flat W m) [] 14 = (chL W.length).drop 1 := by
  rw [flat_show h hm hn (s := 14) (b3 := true) (b4 := false) (by decide) (by decide) (by decide) (by decide)]
  show List.take m _ ++ ([] ++ List.drop m _) = _
  rw [List.nil_append, List.take_append_drop]
theorem flat16 : ownRow (flat W m) [] 16 = [(W.length, 0), (W.length, 1)] := by
  rw [flat_show h hm hn (s := 16) (b3 := false) (b4 := true) (by decide) (by decide) (by decide) (by decide)]
  rfl
theorem flat30 : ownRow (flat W m) [] 30 = ((chL W.length).drop 1).take m ++ ([(W.length, 0), (W.length, 1)] ++ ((chL W.length).drop 1).drop m) := by
  rw [flat_show h hm hn (s := 30) (b3 := true) (b4 := true) (by decide) (by decide) (by decide) (by decide)]
  rfl
theorem flat_fu14 : Fu (flat W m) ((chL W.length).drop 1) none := fun i x y hx hy g => by
  have l := (List.getElem?_eq_some_iff.mp hy).1
  rw [M_len h hm hn] at l
  rw [M_at h hm hn (by omega)] at hx hy
  rw [← Option.some.inj hx, ← Option.some.inj hy] at g
  exact g.1 (.inr (flat_A h hm hn (by omega) (by omega)))
theorem flat_fu16 : Fu (flat W m) [(W.length, 0), (W.length, 1)] none := fun i x y hx hy g => by
  have l := (List.getElem?_eq_some_iff.mp hy).1
  have : i = 0 := by
    have : i + 1 < 2 := l
    omega
  subst this
  cases Option.some.inj hx
  cases Option.some.inj hy
  exact g.1 (.inr ((A.same_iff (x := (W.length, 0)) (y := (W.length, 1)) rfl).mpr (show 0 < 1 by decide)))
theorem flat_fu30 : Fu (flat W m) (((chL W.length).drop 1).take m ++ ([(W.length, 0), (W.length, 1)] ++ ((chL W.length).drop 1).drop m)) (some ((W.length, 1), (m + 1, 0))) := by
  have gw2 := flat_gw h hm hn
  have ml := M_len h hm hn
  have tl : (((chL W.length).drop 1).take m).length = m := by rw [List.length_take, ml]; omega
  have lfn : lf (flat W m) W.length = (m, 0) := by unfold flat; rw [lf_snoc, upd_at]
  have rfn : rf (flat W m) W.length = (0, 1) := by unfold flat; rw [rf_snoc, upd_at]
  have at1 : ∀ i, i < m → (((chL W.length).drop 1).take m ++ ([(W.length, 0), (W.length, 1)] ++ ((chL W.length).drop 1).drop m))[i]? = some (i + 1, 0) := fun i hi => by
    rw [List.getElem?_append_left (by omega), List.getElem?_take_of_lt hi]
    exact M_at h hm hn (by omega)
  have at2 : ∀ i, (((chL W.length).drop 1).take m ++ ([(W.length, 0), (W.length, 1)] ++ ((chL W.length).drop 1).drop m))[m + i]? = ([(W.length, 0), (W.length, 1)] ++ ((chL W.length).drop 1).drop m)[i]? := fun i => by
    rw [List.getElem?_append_right (by omega), tl, Nat.add_sub_cancel_left]
  have at3 : (((chL W.length).drop 1).take m ++ ([(W.length, 0), (W.length, 1)] ++ ((chL W.length).drop 1).drop m))[m]? = some (W.length, 0) := at2 0
  have okF : ∀ {x : Sg}, OkW W x → OkW (flat W m) x := fun {x} o => (ok_old h.gw o.1).mpr o
  refine ⟨m + 1, ?_, ?_, ⟨?_, ?_⟩, fun j x y hj hx hy g => ?_⟩
  · rw [at2 1]; rfl
  · rw [show m + 1 + 1 = m + 2 from rfl, at2 2]
    show ((chL W.length).drop 1 |>.drop m)[0]? = _
    rw [List.getElem?_drop]
    exact M_at h hm hn (by omega)
  · intro g
    rcases g with g | g
    · have := (Prod.mk.inj g).2
      cases this
    · rcases (A.r_iff (x := (W.length, 1)) (y := (m + 1, 0)) (show m + 1 < W.length by omega)).mp g with e | e
      · have e : rf (flat W m) W.length = (m + 1, 0) := e
        rw [rfn] at e
        have := (Prod.mk.inj e).2
        cases this
      · have e : A (lf (flat W m)) (rf (flat W m)) (rf (flat W m) W.length) (m + 1, 0) := e
        rw [rfn] at e
        have o1 : OkW W (0, 1) := ⟨h.len0, by show 1 < Wd.sz W 0; rw [sz0]; decide⟩
        exact A.asym gw2 (okF o1) (okF (h.ok (by omega))) e (A_up h.gw (show m + 1 < W.length by omega) h.len0 (h.lt_end (by omega)))
  · intro g
    rcases g with g | g
    · have := (Prod.mk.inj g).2
      cases this
    · rcases (A.l_iff (x := (m + 1, 0)) (y := (W.length, 1)) (show m + 1 < W.length by omega)).mp g with e | e
      · have e : (m + 1, 0) = lf (flat W m) W.length := e
        rw [lfn] at e
        have := (Prod.mk.inj e).1
        omega
      · have e : A (lf (flat W m)) (rf (flat W m)) (m + 1, 0) (lf (flat W m) W.length) := e
        rw [lfn] at e
        exact A.asym gw2 (okF (h.ok (by omega))) (okF (h.ok (by omega))) e (flat_A h hm hn (by omega) (by omega))
  · rcases Nat.lt_trichotomy (j + 1) m with c | c | c
    · rw [at1 j (by omega)] at hx
      rw [at1 (j + 1) (by omega)] at hy
      rw [← Option.some.inj hx, ← Option.some.inj hy] at g
      exact g.1 (.inr (flat_A h hm hn (by omega) (by omega)))
    · rw [at1 j (by omega)] at hx
      rw [c, at3] at hy
      rw [← Option.some.inj hx, ← Option.some.inj (show some (W.length, 0) = some y from hy)] at g
      refine g.1 (.inr ((A.l_iff (x := (j + 1, 0)) (y := (W.length, 0)) (show j + 1 < W.length by omega)).mpr (.inl ?_)))
      show (j + 1, 0) = lf (flat W m) W.length
      rw [lfn, c]
    · have : j = m := by omega
      subst this
      rw [at3] at hx
      rw [at2 1] at hy
      rw [← Option.some.inj (show some (W.length, 0) = some x from hx), ← Option.some.inj (show some (W.length, 1) = some y from hy)] at g
      exact g.1 (.inr ((A.same_iff (x := (W.length, 0)) (y := (W.length, 1)) rfl).mpr (show 0 < 1 by decide)))
theorem flat_yz : lettersOf (flat W m) [(W.length, 0), (W.length, 1)] = "yz" := by
  have e : (flat W m)[W.length]? = some ⟨4, (m, 0), (0, 1), "yz"⟩ := snoc_new
  have e0 : letterOf (flat W m) (W.length, 0) = 121 := by unfold letterOf; rw [e]; rfl
  have e1 : letterOf (flat W m) (W.length, 1) = 122 := by unfold letterOf; rw [e]; rfl
  unfold lettersOf
  show Txt.join "" [⟨#[letterOf (flat W m) (W.length, 0)]⟩, ⟨#[letterOf (flat W m) (W.length, 1)]⟩] = _
  rw [e0, e1]
  decide +kernel
theorem flat_text : lettersOf (flat W m) ((chL W.length).drop 1) = Txt.join "" (W.map (·.t)) := by
  refine cs_ext ?_
  unfold lettersOf
  rw [cs_join, cs_join, List.map_map, List.map_map]
  have key : ∀ k, k + 1 ≤ W.length → (((chL (k + 1)).drop 1).map (cs ∘ fun x => (⟨#[letterOf (flat W m) x]⟩ : Str))).flatten = ((W.drop 1).take k |>.map (cs ∘ fun b => b.t)).flatten := by
    intro k
    induction k with
    | zero => intro _; rfl
    | succ k ih =>
      intro hk
      obtain ⟨b, hb, _, _, _, ht⟩ := h.get (c := k + 1) (Nat.succ_pos _) (by omega)
      have e1 : (chL (k + 1 + 1)).drop 1 = (chL (k + 1)).drop 1 ++ [(k + 1, 0)] := by
        unfold chL
        rw [List.range_succ (n := k + 1), List.map_append, List.drop_append_of_le_length (by simp)]
        rfl
      have e2 : (W.drop 1).take (k + 1) = (W.drop 1).take k ++ [b] := by
        rw [List.take_add_one, List.getElem?_drop, Nat.add_comm 1 k, hb]
        rfl
      rw [e1, e2, List.map_append, List.map_append, List.flatten_append, List.flatten_append, ih (by omega)]
      congr 1
      have e3 : letterOf (flat W m) (k + 1, 0) = ((cs b.t)[0]?).getD 0 := by
        unfold letterOf flat
        rw [snoc_old (show k + 1 < W.length by omega), hb]
      show [letterOf (flat W m) (k + 1, 0)] ++ [] = cs b.t ++ []
      rw [e3, List.append_nil]
      have l1 := cs_len b.t
      rw [ht] at l1
      obtain ⟨z, hz⟩ := List.length_eq_one_iff.mp l1
      rw [hz]
      rfl
  have e4 : W = ⟨0, (0, 0), (0, 1), ""⟩ :: W.drop 1 := by
    obtain ⟨a, c⟩ := List.getElem?_eq_some_iff.mp h.w0
    have := List.drop_eq_getElem_cons (l := W) (i := 0) a
    rw [List.drop_zero, c] at this
    exact this
  have e5 : (W.map (cs ∘ fun b => b.t)).flatten = ((W.drop 1).map (cs ∘ fun b => b.t)).flatten := by
    generalize W.drop 1 = D at e4 ⊢
    rw [e4]
    rfl
  rw [e5]
  have := key (W.length - 1) (by omega)
  rw [show W.length - 1 + 1 = W.length by omega, List.take_of_length_le (by rw [List.length_drop]; omega)] at this
  exact this
end
end K23

namespace K23
open PySem PySem.Spec PyProof.Rows L2 Dk Tl
/-- one step of a reading -/
local macro_rules | `(tactic| walk_at "rd1") => `(tactic| first
  | ((with_reducible refine r_var (v := ?rv) ?rh ?_); (case rh => rfl))
  | with_reducible refine r_c ?_
  | with_reducible refine r_seq ?_
  | with_reducible refine r_asg ?_
  | with_reducible refine r_par ?_
  | with_reducible refine r_gname ?_
  | with_reducible refine r_op ?_
  | with_reducible refine r_forLo ?_
  | with_reducible refine r_forTo ?_
  | with_reducible refine r_forSo ?_
  | with_reducible refine r_forRo ?_
  | with_reducible refine r_forRvo ?_
  | with_reducible refine r_forZo ?_
  | with_reducible refine r_revS ?_
  | with_reducible refine r_lcRo ?_
  | with_reducible refine r_lcLo ?_
  | with_reducible refine r_yes ?_
  | with_reducible refine r_callK0 ?_
  | with_reducible refine r_break ?_
  | with_reducible refine r_forR2o ?_
  | with_reducible refine r_forEo ?_
  | with_reducible refine r_forESo ?_
  | with_reducible refine r_xfo ?_
  | with_reducible refine r_noP ?_
  | with_reducible refine r_part ?_
  | with_reducible refine r_pI ?_
  | with_reducible refine r_gcons ?_
  | with_reducible refine r_gnil ?_
  | with_reducible refine r_mkO ?_
  | with_reducible refine r_un ?_
  | with_reducible refine r_addI ?_
  | with_reducible refine r_I0 ?_
  | with_reducible refine r_U ?_
  | with_reducible refine r_cons ?_
  | with_reducible refine r_nil ?_
  | with_reducible refine r_CB ?_
  | with_reducible refine r_call ?_
  | with_reducible refine r_callS ?_
  | with_reducible refine r_int ?_
  | with_reducible refine r_max ?_
  | with_reducible refine r_min ?_
  | with_reducible refine r_test ?_
  | with_reducible refine r_B ?_
  | with_reducible refine r_blv ?_
  | with_reducible refine r_and ?_
  | with_reducible refine r_or ?_
  | with_reducible refine r_not ?_
  | with_reducible refine r_andV ?_
  | with_reducible refine r_orV ?_
  | with_reducible refine r_notV ?_
  | with_reducible refine r_ifE ?_
  | with_reducible refine r_ifS ?_
  | with_reducible refine r_ret ?_
  | with_reducible refine r_retN ?_
  | with_reducible refine r_drop ?_
  | with_reducible refine r_next ?_
  | with_reducible refine r_sl ?_
  | with_reducible refine r_gsub ?_
  | with_reducible refine r_bm ?_
  | with_reducible refine r_tup ?_
  | with_reducible refine r_lst ?_
  | with_reducible refine r_isN ?_
  | with_reducible refine r_notN ?_
  | with_reducible refine r_chain ?_
  | with_reducible refine r_lcEio ?_
  | with_reducible refine r_forEi ?_
  | with_reducible refine r_lcTo ?_
  | with_reducible refine r_m1 ?_
  | with_reducible refine r_dget ?_
  | with_reducible refine r_din ?_
  | with_reducible refine r_dnotin ?_
  | with_reducible refine r_starC ?_
  | with_reducible refine r_callKS ?_
  | with_reducible refine r_itt ?_
  | with_reducible refine r_iff ?_
  | with_reducible refine r_ittN ?_
  | with_reducible refine r_iffN ?_
  | ((with_reducible refine r_ittD ?rh ?_); (case rh => rfl))
  | ((with_reducible refine r_iffD ?rh ?_); (case rh => rfl))
  | ((with_reducible refine r_modP ?rh ?_); (case rh => decide))
  | ((with_reducible refine r_eq ?rh ?_); (case rh => rfl))
  | ((with_reducible refine r_eqP ?rh ?_); (case rh => rfl))
  | ((with_reducible refine r_ne ?rh ?_); (case rh => rfl)))
local macro_rules | `(tactic| walk_at "rd") => `(tactic| repeat walk_at "rd1")
local macro_rules | `(tactic| walk_at "isi") => `(tactic| first | refine r_isi (b := true) (by assumption) (by decide +kernel) ?_ | refine r_isi (b := false) (by assumption) (by decide +kernel) ?_)
local macro_rules | `(tactic| walk_at "rs1") => `(tactic| first
  | with_reducible refine r_seq ?_
  | with_reducible refine r_asg ?_
  | with_reducible refine r_gname ?_
  | with_reducible refine r_ret ?_)
local macro_rules | `(tactic| walk_at "rs") => `(tactic| repeat walk_at "rs1")

open Wd
theorem sum_12 : ∀ ps : List Str, (∀ y ∈ ps, y.length ≤ 12) → (ps.map (·.length)).sum ≤ 12 * ps.length
  | [], _ => Nat.le_refl _
  | p :: ps, h => by
    have := sum_12 ps fun y hy => h y (List.mem_cons_of_mem _ hy)
    have := h p (List.mem_cons_self ..)
    rw [List.map_cons, List.sum_cons, List.length_cons]
    omega
theorem gc_nil : Gc [] := ⟨List.nodup_nil, by decide, fun e he => absurd he List.not_mem_nil, fun e he => absurd he List.not_mem_nil⟩
section
variable {P : Program} {w : World} {K : PySem.W.Frag} {mg : Str → Option Value} {base : Heap}
def spChain : Sp := fun vs H Q _ => ∃ (b h : Addr), vs = [.ref b] ∧ Bx H b h ∧ ∀ H', Dr2 b h H H' → Q (.bl true) H'
set_option maxHeartbeats 32000000 in
theorem ok_law_chain_holds (T : Txt K mg) : FnOk P w K mg base CX0 9 T.a_law_chain_holds T.d_law_chain_holds ["_law_box"] spChain := by
  refine T.F_law_chain_holds.ok sc_law_chain_holds (fun vs H Q E h => ?_) (fun cdv A outer s H vs Q E hr h => ?_)
  · obtain ⟨b, h, rfl, _⟩ := h
    rfl
  · obtain ⟨b, h, rfl, bx, q⟩ := h
    refine ⟨_, (pss_cons (ps_set (i := 1) sc_law_chain_holds.nd rfl (Or.inl rfl) (pe_tup (pa_cons (pe_tup (pa_cons pe_int (pa_cons (pe_tup (pa_cons pe_int (pa_cons pe_int pa_nil))) (pa_cons (pe_tup (pa_cons pe_int (pa_cons pe_int pa_nil))) (pa_cons pe_str pa_nil))))) pa_nil)))
        (pss_cons (ps_set (i := 2) sc_law_chain_holds.nd rfl (Or.inl rfl) (pe_lst (pa_cons (pe_tup (pa_cons pe_int (pa_cons pe_int pa_nil))) pa_nil)))
        (pss_cons (ps_for PassesOwn.never rfl (pi_range2 (by rfl) T.n_range (pa_cons pe_int (pa_cons (pe_op op_addU pe_int (pe_call (ok_law_pick T) (hr.mono (by decide)) (by rfl) T.g_law_pick T.F_law_pick.kp T.b_law_pick .nil pass0 (pa_cons (pv 0) (pa_cons pe_int pa_nil)))) pa_nil))) (pg_name (i := 3) sc_law_chain_holds.nd rfl (Or.inl rfl)) (pss_cons (ps_set (i := 1) sc_law_chain_holds.nd rfl (Or.inl rfl) (pe_op op_addU (pv 1) (pe_tup (pa_cons (pe_tup (pa_cons (pe_op op_addU pe_int (pe_op op_modP (pe_callTy call_intU (by rfl) T.n_int (by decide +kernel) (pa_cons (pv 3) pa_nil)) pe_int)) (pa_cons (pe_ix ix_seq (pv 2) (pe_un un_neg pe_int) (fun _ _ => rfl)) (pa_cons (pe_tup (pa_cons pe_int (pa_cons pe_int pa_nil))) (pa_cons (pe_ix ix_seq pe_str (pe_call (ok_law_pick T) (hr.mono (by decide)) (by rfl) T.g_law_pick T.F_law_pick.kp T.b_law_pick .nil pass0 (pa_cons (pv 0) (pa_cons pe_int pa_nil))) (fun _ _ => rfl)) pa_nil))))) pa_nil))))
        (pss_one (ps_expr (pe_bm PySem.F.plainAttrs_list PySem.F.slot_list_append PySem.F.type_list_append mt_append (pv 2) (pa_cons (pe_tup (pa_cons (pv 3) (pa_cons pe_int pa_nil))) pa_nil))))))
        (pss_cons (ps_set (i := 4) sc_law_chain_holds.nd rfl (Or.inl rfl) (pe_join pe_str (pe_lc (own := [("_law_birth", 8)]) (g := gName 8) rfl sc_law_chain_holds.nd (pi_tup (pv 1)) (blkOk_by (N := N_law_chain_holds) (sc := defScope s_law_chain_holds) (by decide +kernel)) (fun _ _ _ _ _ => pg_name (i := 8) sc_law_chain_holds.nd rfl (Or.inl rfl)) (fun _ _ _ _ _ => pts_nil) (fun _ _ _ _ _ => (pe_ix (k_ix (K := K) rfl) (pv 8) pe_int (fun _ _ => rfl))))))
        (pss_cons (ps_set (i := 5) sc_law_chain_holds.nd rfl (Or.inl rfl) (pe_call (ok_law_pick T) (hr.mono (by decide)) (by rfl) T.g_law_pick T.F_law_pick.kp T.b_law_pick .nil pass0 (pa_cons (pv 0) (pa_cons (pe_op op_sub (pe_callB call_lenU (by rfl) T.n_len (by decide +kernel) (pa_cons (pv 2) pa_nil)) pe_int) pa_nil))))
        (pss_cons (ps_set (i := 1) sc_law_chain_holds.nd rfl (Or.inl rfl) (pe_op op_addU (pv 1) (pe_tup (pa_cons (pe_tup (pa_cons pe_int (pa_cons (pe_ix ix_seq (pv 2) (pv 5) (fun _ _ => rfl)) (pa_cons (pe_tup (pa_cons pe_int (pa_cons pe_int pa_nil))) (pa_cons pe_str pa_nil))))) pa_nil))))
        (pss_cons (ps_set (i := 6) sc_law_chain_holds.nd rfl (Or.inl rfl) (pe_op op_sub (pe_callB call_lenU (by rfl) T.n_len (by decide +kernel) (pa_cons (pv 1) pa_nil)) pe_int))
        (pss_cons (ps_if (pt_not (pt_val (pe_call (ok_law_holds T) hr (by rfl) T.g_law_holds T.F_law_holds.kp T.b_law_holds .nil pass0 (pa_cons (pv 1) (pa_cons pe_dnewK (pa_cons pe_int (pa_cons (pe_tup (pa_cons pe_bl (pa_cons (pe_tup (pa_cons pe_str (pa_cons (pe_callTy call_tupU (by rfl) T.n_tuple (by decide +kernel) (pa_cons (pe_slice sl_U (pv 2) (po_some pe_int) po_none) pa_nil)) pa_nil))) (pa_cons (pe_tup (pa_cons pe_str (pa_cons (pv 4) pa_nil))) pa_nil)))) pa_nil))))))) (pss_one (ps_ret pe_bl)) pss_nil)
        (pss_cons (ps_if (pt_not (pt_val (pe_call (ok_law_holds T) hr (by rfl) T.g_law_holds T.F_law_holds.kp T.b_law_holds .nil pass0 (pa_cons (pv 1) (pa_cons pe_dnewK (pa_cons pe_int (pa_cons (pe_tup (pa_cons pe_bl (pa_cons (pe_tup (pa_cons pe_str (pa_cons (pe_tup (pa_cons (pe_tup (pa_cons (pv 6) (pa_cons pe_int pa_nil))) (pa_cons (pe_tup (pa_cons (pv 6) (pa_cons pe_int pa_nil))) pa_nil))) pa_nil))) (pa_cons (pe_tup (pa_cons pe_str (pa_cons pe_str pa_nil))) pa_nil)))) pa_nil))))))) (pss_one (ps_ret pe_bl)) pss_nil)
        (pss_cons (ps_set (i := 7) sc_law_chain_holds.nd rfl (Or.inl rfl) (pe_tup (pa_cons pe_str (pa_cons (pe_tup (pa_cons (pv 6) (pa_cons pe_int pa_nil))) (pa_cons (pe_ix ix_seq (pv 2) (pe_op op_addU (pv 5) pe_int) (fun _ _ => rfl)) pa_nil)))))
        (pss_one (ps_ret (pe_call (ok_law_holds T) hr (by rfl) T.g_law_holds T.F_law_holds.kp T.b_law_holds .nil pass0 (pa_cons (pv 1) (pa_cons pe_dnewK (pa_cons pe_int (pa_cons (pe_tup (pa_cons pe_bl (pa_cons (pv 7) (pa_cons (pv 7) pa_nil)))) pa_nil))))))))))))))))), ?_⟩
    walk_at "rd"
    refine r_small nsz fun p1 n1 => ?_
    obtain ⟨H1, k1, e1, s1⟩ := nS K (a := 0) (b := 0) (i := 0) (j := 0) n1 rfl rfl
    rw [← k1]
    walk_at "rd"
    refine r_small nsz fun p2 n2 => ?_
    obtain ⟨H2, k2, e2, s2⟩ := nS K (a := 0) (b := 1) (i := 0) (j := 1) n2 rfl rfl
    rw [← k2]
    walk_at "rd"
    refine r_small nsz fun p3 n3 => ?_
    obtain ⟨H3, k3, e3, h3⟩ := nL (.tup [.int 0, .ref p1, .ref p2, .str ""]) n3
    rw [← k3]
    have bi0 : BiV K H3 (.ref p3) ⟨0, (0, 0), (0, 1), ""⟩ := ⟨p3, .ref p1, .ref p2, rfl, .inl h3, imm (R := SgV K) (.ex (e2.trans e3)) s1, imm (R := SgV K) (.ex e3) s2⟩
    walk_at "rd"
    refine r_small nsz fun p4 n4 => ?_
    obtain ⟨H4, k4, e4, wd4⟩ := nT (R := BiV K) K n4 (.cons bi0 .nil)
    rw [← k4]
    walk_at "rd"
    refine r_small nsz fun p5 n5 => ?_
    obtain ⟨H5, k5, e5, s5⟩ := nS K (a := 0) (b := 0) (i := 0) (j := 0) n5 rfl rfl
    rw [← k5]
    walk_at "rd"
    refine r_small nsz fun pr n6 => ?_
    obtain ⟨H6, k6, e6, h6⟩ := nL (.lst [.ref p5]) n6
    rw [← k6]
    have e05 := (((e1.trans e2).trans e3).trans e4).trans e5
    have D06 := Dr2.ex bx (e05.trans e6)
    have pr0 : H pr = none := e05.free n6
    have prb := bx.nb pr0
    have prh := bx.nh pr0
    have s5' := imm (R := SgV K) (.ex e6) s5
    have wd6 := imm (R := WdV K) (.ex (e5.trans e6)) wd4
    clear wd4 bi0 s1 s2 s5 h3 k1 k2 k3 k4 k5 k6
    walk_at "rd"
    refine ⟨b, h, 139, rfl, D06.st, by decide, by decide, fun x H7 x0 x1 D7 => ?_⟩
    walk_at "rd"
    rw [show (61 : Int) + x = ((61 + x.toNat : Nat) : Int) by omega]
    have D07 := D06.trans D7
    have t7 := dr2_tk D06.st D7
    obtain ⟨N, hN⟩ : ∃ N, 61 + x.toNat = N := ⟨_, rfl⟩
    rw [hN]
    refine l_R1n (by omega) (by omega) (fun c σ H' => ∃ (wv : V) (W : List Bi) (rs : List V) (y3 : Option V), σ = [some (.ref b), some wv, some (.ref pr), y3, none, none, none, none, none] ∧ Dr2 b h H H' ∧ WdV K H' wv W ∧ ChW W ∧ W.length = c ∧ H' pr = some (.lst rs) ∧ SgL K H' rs (chL c))
      ⟨.ref p4, _, _, none, rfl, D07, imm (R := WdV K) t7 wd6, ChW.one, rfl, D7.hh _ _ prb prh h6, .cons (imm (R := SgV K) t7 s5') .nil⟩ (fun c σ H' c1 c2 hW => ?_) (fun σ H' hW => ?_)
    · clear wd6 D06 D7 D07 t7 s5' h6 n1 n2 n3 n4 n5 n6 e1 e2 e3 e4 e5 e6 e05
      obtain ⟨wv, W, rs, y3, rfl, D, wd, ch, wl, hr', hrs⟩ := hW
      have rl := hrs.len
      rw [List.length_map, List.length_range] at rl
      have hlast : (chL c).getLast? = some (c - 1, 0) := by
        rw [List.getLast?_eq_getElem?, List.length_map, List.length_range]
        exact chL_at (by omega)
      obtain ⟨rs0, z, hrs0, _, sz1⟩ := P2.last hrs hlast
      walk_at "rd"
      rw [show (1 : Int) + ((c : Nat) : Int) % 3 = ((1 + c % 3 : Nat) : Int) by omega]
      refine r_ixL (sqL hr') (show atI rs (-1) = some z by rw [hrs0]; exact atI_last rs0 z) ?_
      walk_at "rd"
      refine r_small nsz fun q1 m1 => ?_
      obtain ⟨I1, j1, f1, r1⟩ := nS K (a := 0) (b := 1) (i := 0) (j := 1) m1 rfl rfl
      rw [← j1]
      walk_at "rd"
      refine ⟨b, h, 4, rfl, (D.then f1).st, by decide, by decide, fun y I2 y0 y1 D2 => ?_⟩
      obtain ⟨cc, hcc⟩ := ab_at (z := "ab\nX") (by decide +kernel) y0 (by
        have e : ("ab\nX" : Str).length = 4 := by decide +kernel
        rw [e]
        exact y1)
      have t2 := dr2_tk (D.then f1).st D2
      walk_at "rd"
      refine r_ixS (by decide +kernel) hcc ?_
      walk_at "rd"
      refine r_small nsz fun q3 m3 => ?_
      obtain ⟨I3, j3, f3, g3⟩ := nL (.tup [.int (1 + c % 3 : Nat), z, .ref q1, .str ⟨#[cc]⟩]) m3
      rw [← j3]
      have b3 : BiV K I3 (.ref q3) ⟨1 + W.length % 3, (W.length - 1, 0), (0, 1), ⟨#[cc]⟩⟩ := by
        rw [wl]
        exact ⟨q3, z, .ref q1, rfl, .inl g3, imm (R := SgV K) ((Tk.ex f1).trans (t2.trans (.ex f3))) sz1, imm (R := SgV K) (t2.trans (.ex f3)) r1⟩
      walk_at "rd"
      refine r_small nsz fun q4 m4 => ?_
      obtain ⟨I4, j4, f4, w4⟩ := nT (R := BiV K) K m4 (.cons b3 .nil)
      rw [← j4]
      have t14 : Tk H' I4 := (Tk.ex f1).trans (t2.trans (.ex (f3.trans f4)))
      walk_at "rd"
      refine r_catTV (imm (R := WdV K) t14 wd) w4 (by simp; omega) fun wv5 I5 f5 w5 => ?_
      have D05 := (((D.then f1).trans D2).then (f3.trans f4)).then f5
      have hr5 : I5 pr = some (.lst rs) := (f3.trans (f4.trans f5)) _ _ (D2.hh _ _ prb prh (f1 _ _ hr'))
      have rs5 : SgL K I5 rs (chL c) := p2_imm (R := SgV K) (t14.trans (.ex f5)) hrs
      walk_at "rd"
      refine r_tyL (sqL hr5) ?_
      walk_at "rd"
      refine r_small nsz fun q6 m6 => ?_
      obtain ⟨I6, j6, f6, s6⟩ := nS K (a := (c : Nat)) (b := 0) (i := c) (j := 0) m6 rfl rfl
      rw [← j6]
      have hr6 := f6 _ _ hr5
      walk_at "rd"
      refine r_app hr6 (Nat.lt_of_le_of_lt (show rs.length ≤ 1000 by omega) (by decide)) ?_
      have tp := Tk.put (o := .lst (rs ++ [.ref q6])) hr6
      refine ⟨wv5, _, _, _, rfl, (D05.then f6).mut pr0 prb prh, imm (R := WdV K) ((Tk.ex f6).trans tp) w5, ch.step rfl (by omega), by rw [len_snoc, wl], upd_same, ?_⟩
      unfold chL
      rw [List.range_succ, List.map_append]
      exact (p2_imm (R := SgV K) ((Tk.ex f6).trans tp) rs5).snoc (imm (R := SgV K) tp s6)
    obtain ⟨wv, W, rs, y3, rfl, DD, wd, ch, wl, hrl, hrs⟩ := hW
    clear wd6 D06 D7 D07 t7 s5' h6 n1 n2 n3 n4 n5 n6 e1 e2 e3 e4 e5 e6 e05
    have rl := hrs.len
    rw [List.length_map, List.length_range] at rl
    obtain ⟨pw, xw, rfl, hpw, hxw⟩ := id wd
    have xwl := hxw.len
    walk_at "rd"
    refine ⟨⟨_, rfl⟩, ?_⟩
    walk_at "rd"
    refine l_lcT hpw.sq (fun D i H1 => Ex H' H1 ∧ H1 D = some (.lst (((W.take i).map (·.t)).map V.str))) (fun D hD => ⟨Same.new (Same.refl H') hD, upd_same⟩) (fun D i H1 hW => (hpw.up hW.1).sq) (fun D i x H1 hD hi hW => ?_) (fun D H1 hD hW => ?_)
    · obtain ⟨e, ha⟩ := hW
      obtain ⟨bi, hb, sv⟩ := hxw.get hi
      have il := (List.getElem?_eq_some_iff.mp hb).1
      walk_at "rd"
      refine ⟨rfl, ?_⟩
      walk_at "rd"
      refine r_biT (imm (R := BiV K) (.ex e) sv) ?_
      refine ⟨_, ha, by rw [List.length_map, List.length_map, List.length_take]; exact Nat.lt_of_le_of_lt (show min i W.length ≤ 1000 by omega) (by decide), Same.mut e hD, ?_⟩
      rw [upd_same, List.take_add_one, hb]
      simp
    obtain ⟨e1, ha⟩ := hW
    rw [xwl, List.take_length] at ha
    have tl12 : ∀ y ∈ W.map (·.t), y.length ≤ 12 := fun y hy => by
      obtain ⟨bb, hbb, rfl⟩ := List.mem_map.mp hy
      exact ch.gw.tl bb hbb
    walk_at "rd"
    refine ⟨"", D, _, rfl, rfl, .inl (sqL ha), ?_, ?_⟩
    · have := sum_12 _ tl12
      rw [List.length_map] at this
      rw [show ("" : Str).length = 0 from rfl, List.length_map]
      omega
    obtain ⟨txt, htxt⟩ : ∃ t, Txt.join "" (W.map (·.t)) = t := ⟨_, rfl⟩
    rw [htxt]
    have D01 := DD.then e1
    have hr1 := e1 _ _ hrl
    have rs1 := p2_imm (R := SgV K) (.ex e1) hrs
    have wd1 := imm (R := WdV K) (.ex e1) wd
    clear wd hrs hrl ha hpw hxw
    walk_at "rd"
    refine r_lenL (sqL hr1) ?_
    rw [rl]
    walk_at "rd"
    refine ⟨b, h, _, rfl, D01.st, by omega, by omega, fun y H2 y0 y1 D2 => ?_⟩
    obtain ⟨m, rfl⟩ : ∃ m : Nat, y = (m : Nat) := ⟨y.toNat, by omega⟩
    have hm : m + 1 < W.length := by omega
    have hn : W.length < 205 := by omega
    have t2 := dr2_tk D01.st D2
    have D02 := D01.trans D2
    have hr2 := D2.hh _ _ prb prh hr1
    have rs2 := p2_imm (R := SgV K) t2 rs1
    have wd2 := imm (R := WdV K) t2 wd1
    walk_at "rd"
    refine r_ixLV hr2 rs2 (chL_at (show m < N by omega)) fun u su => ?_
    walk_at "rd"
    refine r_small nsz fun q1 m1 => ?_
    obtain ⟨I1, j1, f1, r1⟩ := nS K (a := 0) (b := 1) (i := 0) (j := 1) m1 rfl rfl
    rw [← j1]
    walk_at "rd"
    refine r_small nsz fun q3 m3 => ?_
    obtain ⟨I3, j3, f3, g3⟩ := nL (.tup [.int 4, u, .ref q1, .str "yz"]) m3
    rw [← j3]
    have b3 : BiV K I3 (.ref q3) ⟨4, (m, 0), (0, 1), "yz"⟩ := ⟨q3, u, .ref q1, rfl, .inl g3, imm (R := SgV K) (.ex (f1.trans f3)) su, imm (R := SgV K) (.ex f3) r1⟩
    walk_at "rd"
    refine r_small nsz fun q4 m4 => ?_
    obtain ⟨I4, j4, f4, w4⟩ := nT (R := BiV K) K m4 (.cons b3 .nil)
    rw [← j4]
    have f14 := (f1.trans f3).trans f4
    walk_at "rd"
    refine r_catTV (imm (R := WdV K) (.ex f14) wd2) w4 (by simp; omega) fun wv5 I5 f5 w5 => ?_
    have w5 : WdV K I5 wv5 (flat W m) := w5
    have f15 := f14.trans f5
    have gw2 := flat_gw ch hm hn
    walk_at "rd"
    refine r_lenTV w5 ?_
    walk_at "rd"
    rw [show (((flat W m).length : Nat) : Int) - 1 = ((W.length : Nat) : Int) by unfold flat; rw [len_snoc]; omega]
    have D05 := D02.then f15
    have hr5 := f15 _ _ hr2
    have rs5 := p2_imm (R := SgV K) (.ex f15) rs2
    clear D01 D02 D2 wd1 wd2 rs1 rs2 hr1 hr2 t2 w4 b3 r1 su g3 j1 j3 j4
    rw [← wl] at rs5
    intro d6 nd6
    obtain ⟨H6, k6, e6, h6⟩ := nL (.dK []) nd6
    rw [← k6]
    walk_at "rd"
    refine r_slL (sqL (e6 _ _ hr5)) fun q7 n7 => ?_
    rw [show cutV rs (some (1 : Int)) none = rs.drop 1 from cutV_fr (k := 1)]
    obtain ⟨H7, k7, e7, h7⟩ := nL (.lst (rs.drop 1)) n7
    rw [← k7]
    have e57 := e6.trans e7
    walk_at "rd"
    refine r_tupLV (R := SgV K) h7 ((p2_imm (R := SgV K) (.ex e57) rs5).drop 1) fun p8 H8 n8 e8 t8 => ?_
    walk_at "rd"
    refine r_small nsz fun p9 n9 => ?_
    obtain ⟨H9, k9, e9, h9⟩ := nL (.tup [.str "let", .ref p8]) n9
    rw [← k9]
    walk_at "rd"
    refine r_small nsz fun p10 n10 => ?_
    obtain ⟨H10, k10, e10, h10⟩ := nL (.tup [.str "let", .str txt]) n10
    rw [← k10]
    walk_at "rd"
    refine r_small nsz fun p11 n11 => ?_
    obtain ⟨H11, k11, e11, h11⟩ := nL (.tup [.bl true, .ref p9, .ref p10]) n11
    rw [← k11]
    have e911 := (e9.trans e10).trans e11
    have e511 := (e57.trans e8).trans e911
    refine ⟨wv5, .ref d6, .ref p11, flat W m, [], 14, txt, _, none, rfl, imm (R := WdV K) (.ex e511) w5, gw2, ⟨d6, [], rfl, (e7.trans (e8.trans e911)) _ _ h6, .nil⟩, gc_nil, flat14 ch hm hn, (flat_text ch hm hn).trans htxt, flat_fu14 ch hm hn, ⟨p11, _, _, rfl, h11, ⟨p9, _, rfl, e11 _ _ (e10 _ _ h9), fun _ => imm (R := TupV K (SgV K)) (.ex e911) t8, fun z => nomatch z⟩, ⟨p10, _, rfl, e11 _ _ h10, (fun z => nomatch z), fun _ => rfl⟩⟩, fun H12 e12 => ?_⟩
    have e512 := e511.trans e12
    have w12 := imm (R := WdV K) (.ex e512) w5
    have D12 := D05.then e512
    clear h6 h7 h9 h10 h11 t8 k6 k7 k9 k10 k11
    walk_at "rd"
    intro d13 nd13
    obtain ⟨H13, k13, e13, h13⟩ := nL (.dK []) nd13
    rw [← k13]
    walk_at "rd"
    refine r_small nsz fun p14 n14 => ?_
    obtain ⟨H14, k14, e14, s14⟩ := nS K (a := (W.length : Nat)) (b := 0) (i := W.length) (j := 0) n14 rfl rfl
    rw [← k14]
    walk_at "rd"
    refine r_small nsz fun p15 n15 => ?_
    obtain ⟨H15, k15, e15, s15⟩ := nS K (a := (W.length : Nat)) (b := 1) (i := W.length) (j := 1) n15 rfl rfl
    rw [← k15]
    walk_at "rd"
    refine r_small nsz fun p16 n16 => ?_
    obtain ⟨H16, k16, e16, t16⟩ := nT (R := SgV K) K n16 (.cons (imm (R := SgV K) (.ex e15) s14) (.cons s15 .nil))
    rw [← k16]
    walk_at "rd"
    refine r_small nsz fun p17 n17 => ?_
    obtain ⟨H17, k17, e17, h17⟩ := nL (.tup [.str "let", .ref p16]) n17
    rw [← k17]
    walk_at "rd"
    refine r_small nsz fun p18 n18 => ?_
    obtain ⟨H18, k18, e18, h18⟩ := nL (.tup [.str "let", .str "yz"]) n18
    rw [← k18]
    walk_at "rd"
    refine r_small nsz fun p19 n19 => ?_
    obtain ⟨H19, k19, e19, h19⟩ := nL (.tup [.bl true, .ref p17, .ref p18]) n19
    rw [← k19]
    have e1719 := (e17.trans e18).trans e19
    have e1319 := ((e14.trans e15).trans e16).trans e1719
    refine ⟨wv5, .ref d13, .ref p19, flat W m, [], 16, "yz", _, none, rfl, imm (R := WdV K) (.ex (e13.trans e1319)) w12, gw2, ⟨d13, [], rfl, e1319 _ _ h13, .nil⟩, gc_nil, flat16 ch hm hn, flat_yz ch hm hn, flat_fu16 ch hm hn, ⟨p19, _, _, rfl, h19, ⟨p17, _, rfl, e19 _ _ (e18 _ _ h17), fun _ => imm (R := TupV K (SgV K)) (.ex e1719) t16, fun z => nomatch z⟩, ⟨p18, _, rfl, e19 _ _ h18, (fun z => nomatch z), fun _ => rfl⟩⟩, fun H20 e20 => ?_⟩
    have e1220 := (e13.trans e1319).trans e20
    have w20 := imm (R := WdV K) (.ex e1220) w12
    have D20 := D12.then e1220
    have rs20 := p2_imm (R := SgV K) (.ex (e512.trans e1220)) rs5
    have hr20 := (e512.trans e1220) _ _ hr5
    clear h13 s14 s15 t16 h17 h18 h19 k13 k14 k15 k16 k17 k18 k19
    walk_at "rd"
    refine r_small nsz fun p21 n21 => ?_
    obtain ⟨H21, k21, e21, s21⟩ := nS K (a := (W.length : Nat)) (b := 1) (i := W.length) (j := 1) n21 rfl rfl
    rw [← k21]
    walk_at "rd"
    rw [show ((m : Nat) : Int) + 1 = ((m + 1 : Nat) : Int) from rfl]
    refine r_ixLV (e21 _ _ hr20) (p2_imm (R := SgV K) (.ex e21) rs20) (chL_at (show m + 1 < W.length from hm)) fun u2 su2 => ?_
    walk_at "rd"
    refine r_small nsz fun p22 n22 => ?_
    obtain ⟨H22, k22, e22, h22⟩ := nL (.tup [.str "refused", .ref p21, u2]) n22
    rw [← k22]
    walk_at "rd"
    intro d23 nd23
    obtain ⟨H23, k23, e23, h23⟩ := nL (.dK []) nd23
    rw [← k23]
    walk_at "rd"
    refine r_small nsz fun p24 n24 => ?_
    obtain ⟨H24, k24, e24, h24⟩ := nL (.tup [.bl false, .ref p22, .ref p22]) n24
    rw [← k24]
    have e2224 := (e22.trans e23).trans e24
    have tdv : ∀ t, TdV K H24 t (lettersOf (flat W m) (ownRow (flat W m) [] 30)) (ownRow (flat W m) [] 30) (.ref p22) (some ((W.length, 1), (m + 1, 0))) := fun t => ⟨p22, _, _, rfl, e24 _ _ (e23 _ _ h22), imm (R := SgV K) (.ex e2224) s21, imm (R := SgV K) (.ex e2224) su2⟩
    refine ⟨wv5, .ref d23, .ref p24, flat W m, [], 30, _, _, some ((W.length, 1), (m + 1, 0)), rfl, imm (R := WdV K) (.ex (e21.trans e2224)) w20, gw2, ⟨d23, [], rfl, e24 _ _ h23, .nil⟩, gc_nil, rfl, rfl, by rw [flat30 ch hm hn]; exact flat_fu30 ch hm hn, ⟨p24, _, _, rfl, h24, tdv false, tdv true⟩, fun H25 e25 => ?_⟩
    exact q H25 (D20.then ((e21.trans e2224).trans e25))
end
end K23

namespace K23
open PySem PySem.Spec PyProof.Rows L2 Dk Tl
/-- one step of a reading -/
local macro_rules | `(tactic| walk_at "rd1") => `(tactic| first
  | ((with_reducible refine r_var (v := ?rv) ?rh ?_); (case rh => rfl))
  | with_reducible refine r_c ?_
  | with_reducible refine r_seq ?_
  | with_reducible refine r_asg ?_
  | with_reducible refine r_par ?_
  | with_reducible refine r_gname ?_
  | with_reducible refine r_op ?_
  | with_reducible refine r_forLo ?_
  | with_reducible refine r_forTo ?_
  | with_reducible refine r_forSo ?_
  | with_reducible refine r_forRo ?_
  | with_reducible refine r_forRvo ?_
  | with_reducible refine r_forZo ?_
  | with_reducible refine r_revS ?_
  | with_reducible refine r_lcRo ?_
  | with_reducible refine r_lcLo ?_
  | with_reducible refine r_yes ?_
  | with_reducible refine r_callK0 ?_
  | with_reducible refine r_break ?_
  | with_reducible refine r_forR2o ?_
  | with_reducible refine r_forEo ?_
  | with_reducible refine r_forESo ?_
  | with_reducible refine r_xfo ?_
  | with_reducible refine r_noP ?_
  | with_reducible refine r_part ?_
  | with_reducible refine r_pI ?_
  | with_reducible refine r_gcons ?_
  | with_reducible refine r_gnil ?_
  | with_reducible refine r_mkO ?_
  | with_reducible refine r_un ?_
  | with_reducible refine r_addI ?_
  | with_reducible refine r_I0 ?_
  | with_reducible refine r_U ?_
  | with_reducible refine r_cons ?_
  | with_reducible refine r_nil ?_
  | with_reducible refine r_CB ?_
  | with_reducible refine r_call ?_
  | with_reducible refine r_callS ?_
  | with_reducible refine r_int ?_
  | with_reducible refine r_max ?_
  | with_reducible refine r_min ?_
  | with_reducible refine r_test ?_
  | with_reducible refine r_B ?_
  | with_reducible refine r_blv ?_
  | with_reducible refine r_and ?_
  | with_reducible refine r_or ?_
  | with_reducible refine r_not ?_
  | with_reducible refine r_andV ?_
  | with_reducible refine r_orV ?_
  | with_reducible refine r_notV ?_
  | with_reducible refine r_ifE ?_
  | with_reducible refine r_ifS ?_
  | with_reducible refine r_ret ?_
  | with_reducible refine r_retN ?_
  | with_reducible refine r_drop ?_
  | with_reducible refine r_next ?_
  | with_reducible refine r_sl ?_
  | with_reducible refine r_gsub ?_
  | with_reducible refine r_bm ?_
  | with_reducible refine r_tup ?_
  | with_reducible refine r_lst ?_
  | with_reducible refine r_isN ?_
  | with_reducible refine r_notN ?_
  | with_reducible refine r_chain ?_
  | with_reducible refine r_lcEio ?_
  | with_reducible refine r_forEi ?_
  | with_reducible refine r_lcTo ?_
  | with_reducible refine r_m1 ?_
  | with_reducible refine r_dget ?_
  | with_reducible refine r_din ?_
  | with_reducible refine r_dnotin ?_
  | with_reducible refine r_starC ?_
  | with_reducible refine r_callKS ?_
  | with_reducible refine r_itt ?_
  | with_reducible refine r_iff ?_
  | with_reducible refine r_ittN ?_
  | with_reducible refine r_iffN ?_
  | ((with_reducible refine r_ittD ?rh ?_); (case rh => rfl))
  | ((with_reducible refine r_iffD ?rh ?_); (case rh => rfl))
  | ((with_reducible refine r_modP ?rh ?_); (case rh => decide))
  | ((with_reducible refine r_eq ?rh ?_); (case rh => rfl))
  | ((with_reducible refine r_eqP ?rh ?_); (case rh => rfl))
  | ((with_reducible refine r_ne ?rh ?_); (case rh => rfl)))
local macro_rules | `(tactic| walk_at "rd") => `(tactic| repeat walk_at "rd1")
local macro_rules | `(tactic| walk_at "isi") => `(tactic| first | refine r_isi (b := true) (by assumption) (by decide +kernel) ?_ | refine r_isi (b := false) (by assumption) (by decide +kernel) ?_)
local macro_rules | `(tactic| walk_at "rs1") => `(tactic| first
  | with_reducible refine r_seq ?_
  | with_reducible refine r_asg ?_
  | with_reducible refine r_gname ?_
  | with_reducible refine r_ret ?_)
local macro_rules | `(tactic| walk_at "rs") => `(tactic| repeat walk_at "rs1")

open Wd
theorem LtV.strip {K : PySem.W.Frag} {H : Hp} {b h : Addr} {v : V} {lots : Lots} (bx : Bx H b h) (l : LtV (fun a => a ≠ b ∧ a ≠ h) K H v lots) : LtV (fun _ => True) K (strip H b h) v lots := by
  obtain ⟨p, xs, h1, h2, h3, h4⟩ := l
  refine ⟨p, xs, h1, trivial, by rw [strip_at h2.1 h2.2]; exact h3, h4.imp fun v e z => ?_⟩
  obtain ⟨q, r, gs, a1, a2, a3, a4, a5, a6⟩ := z
  exact ⟨q, r, gs, a1, trivial, trivial, by rw [strip_at a2.1 a2.2]; exact a4, by rw [strip_at a3.1 a3.2]; exact a5, p2_imm (R := SgV K) (strip_tk bx) a6⟩
section
variable {W : List Bi} {bi : Bi} {lots : Lots} {s : Nat}
theorem wide_row (g : Gw W) (hb : bi.who = 290) (h9 : s.testBit 290 = false) (cts : Cts) : ownRow (W ++ [bi]) cts s = ownRow W cts s := by
  have kp := laid_kp g.wv (ch := []) W.length g.wv.n0 (Nat.le_refl _)
  unfold ownRow
  refine filter_snoc g.wv.n0 (fun i _ => ?_) fun x hx => ?_
  · unfold Wd.shown
    rw [who_new, hb, h9, Bool.false_and, Bool.and_false]
  · unfold Wd.shown
    rw [who_old ((kp.mem x).mp hx).1]
theorem wide_fu (g : Gw W) {row : List Sg} (ok : ∀ x ∈ row, OkW W x) {o : Option (Sg × Sg)} (h : Fu W row o) : Fu (W ++ [bi]) row o := by
  have e : ∀ x y, OkW W x → OkW W y → (fuPair (W ++ [bi]) x y ↔ fuPair W x y) := fun x y ox oy => by
    unfold fuPair
    rw [E_old g ox.1 oy.1, E_old g oy.1 ox.1]
  cases o with
  | none =>
    intro i x y hx hy
    rw [e x y (ok x (List.mem_of_getElem? hx)) (ok y (List.mem_of_getElem? hy))]
    exact h i x y hx hy
  | some z =>
    obtain ⟨i, h1, h2, h3, h4⟩ := h
    refine ⟨i, h1, h2, (e _ _ (ok _ (List.mem_of_getElem? h1)) (ok _ (List.mem_of_getElem? h2))).mpr h3, fun j x y hj hx hy => ?_⟩
    rw [e x y (ok x (List.mem_of_getElem? hx)) (ok y (List.mem_of_getElem? hy))]
    exact h4 j x y hj hx hy
theorem wide_letters {row : List Sg} (ok : ∀ x ∈ row, OkW W x) : lettersOf (W ++ [bi]) row = lettersOf W row := by
  unfold lettersOf
  congr 1
  refine List.map_congr_left fun x hx => ?_
  unfold letterOf
  rw [snoc_old (ok x hx).1]
theorem wide_cut (g : Gw W) (g' : Gw (W ++ [bi])) (hb : bi.who = 290) (h9 : s.testBit 290 = false) (hw : ∀ c b, 0 < c → W[c]? = some b → 1 ≤ b.who ∧ b.who ≠ 290) (hl : ∀ e ∈ lots, e.1 ≠ 290) :
    ownRow (W ++ [bi]) (ctsOf (W ++ [bi]) (lots ++ [(290, (List.range bi.t.length).map fun i => (W.length, i))])) (s ||| 1 <<< 290) = ownRow W (ctsOf W lots) s := by
  have kp := laid_kp g.wv (ch := []) W.length g.wv.n0 (Nat.le_refl _)
  rw [← seen_own g', ← seen_own g]
  have t9 : ∀ j, (s ||| 1 <<< 290).testBit j = (s.testBit j || decide (j = 290)) := fun j => by rw [Nat.testBit_or, bit_shl]
  refine filter_snoc g.wv.n0 (fun i hi => ?_) fun x hx => ?_
  · unfold seenB lotCut
    rw [List.any_append]
    have : ([(290, (List.range bi.t.length).map fun i => (W.length, i))] : Lots).any (fun e => (s ||| 1 <<< 290).testBit e.1 && decide ((W.length, i) ∈ e.2)) = true := by
      rw [List.any_cons]
      show ((s ||| 1 <<< 290).testBit 290 && decide ((W.length, i) ∈ (List.range bi.t.length).map fun i => (W.length, i)) || _) = true
      rw [t9, decide_eq_true (rfl : 290 = 290), Bool.or_true, decide_eq_true (List.mem_map.mpr ⟨i, List.mem_range.mpr hi, rfl⟩)]
      rfl
    rw [this, Bool.or_true]
    simp
  · have ok := (kp.mem x).mp hx
    unfold seenB
    rw [who_old ok.1]
    rcases Nat.eq_zero_or_pos x.1 with z | z
    · rw [z]; rfl
    · obtain ⟨b0, hb0⟩ := OkW.at (W := W) ok
      have w := (hw x.1 b0 z hb0).2
      rw [t9, who_at hb0, decide_eq_false w, Bool.or_false]
      congr 2
      unfold lotCut
      rw [List.any_append]
      have e2 : ([(290, (List.range bi.t.length).map fun i => (W.length, i))] : Lots).any (fun e => (s ||| 1 <<< 290).testBit e.1 && decide (x ∈ e.2)) = false := by
        rw [List.any_eq_false]
        intro e he
        rw [List.mem_singleton.mp he]
        intro g2
        rw [Bool.and_eq_true, decide_eq_true_iff] at g2
        obtain ⟨i, _, hi⟩ := List.mem_map.mp g2.2
        have := ok.1
        rw [← hi] at this
        exact Nat.lt_irrefl _ this
      rw [e2, Bool.or_false]
      congr 1
      rw [Bool.eq_iff_iff, List.any_eq_true, List.any_eq_true]
      have k : ∀ e ∈ lots, ((s ||| 1 <<< 290).testBit e.1 && decide (x ∈ e.2)) = (s.testBit e.1 && decide (x ∈ e.2)) := fun e he => by
        rw [t9, decide_eq_false (hl e he), Bool.or_false]
      exact ⟨fun ⟨e, he, h2⟩ => ⟨e, he, by rw [← k e he]; exact h2⟩, fun ⟨e, he, h2⟩ => ⟨e, he, by rw [k e he]; exact h2⟩⟩
theorem own_none (hs : ∀ c b, 0 < c → W[c]? = some b → s.testBit b.who = false) (g : Gw W) (cts : Cts) : ownRow W cts s = [] := by
  have kp := laid_kp g.wv (ch := []) W.length g.wv.n0 (Nat.le_refl _)
  unfold ownRow
  refine List.filter_eq_nil_iff.mpr fun x hx v => ?_
  unfold Wd.shown at v
  rw [Bool.and_eq_true, Bool.and_eq_true] at v
  have x0 : 0 < x.1 := of_decide_eq_true v.1
  obtain ⟨b0, hb0⟩ := OkW.at (W := W) ((kp.mem x).mp hx)
  have := v.2.1
  rw [who_at hb0, hs x.1 b0 x0 hb0] at this
  cases this
end
section
variable {P : Program} {w : World} {K : PySem.W.Frag} {mg : Str → Option Value} {base : Heap}
def sp_law (K : PySem.W.Frag) : Sp := fun vs H Q _ => ∃ (a : Addr) (ns : List Int), vs = [.ref a] ∧ SqL K H a (ns.map V.int) ∧ ns.length ≤ 63 ∧ ∀ H', Q (.bl true) H'
set_option maxHeartbeats 64000000 in
theorem ok_law (T : Txt K mg) : FnOk P w K mg base CX0 10 T.a_law T.d_law ["_law_script"] (sp_law K) := by
  refine T.F_law.ok sc_law (fun vs H Q E h => ?_) (fun cdv A outer s H vs Q E hr h => ?_)
  · obtain ⟨a, ns, rfl, _⟩ := h
    rfl
  · obtain ⟨a0, ns, rfl, hS, hns, q⟩ := h
    refine ⟨_, (pss_cons (ps_set (i := 1) sc_law.nd rfl (Or.inl rfl) (pe_call (ok_law_draws T) (hr.mono (by decide)) (by rfl) T.g_law_draws T.F_law_draws.kp T.b_law_draws .nil pass0 (pa_cons (pv 0) pa_nil)))
        (pss_cons (ps_set (i := 2) sc_law.nd rfl (Or.inl rfl) (pe_ix ix_seq (pe_lst (pa_cons pe_int (pa_cons pe_int (pa_cons pe_int (pa_cons pe_int (pa_cons pe_int (pa_cons pe_int (pa_cons pe_int (pa_cons pe_int pa_nil))))))))) (pe_call (ok_law_pick T) (hr.mono (by decide)) (by rfl) T.g_law_pick T.F_law_pick.kp T.b_law_pick .nil pass0 (pa_cons (pv 1) (pa_cons pe_int pa_nil))) (fun _ _ => rfl)))
        (pss_cons (ps_set (i := 3) sc_law.nd rfl (Or.inl rfl) (pe_ix ix_seq (pe_lst (pa_cons pe_int (pa_cons pe_int (pa_cons pe_int (pa_cons pe_int pa_nil))))) (pe_call (ok_law_pick T) (hr.mono (by decide)) (by rfl) T.g_law_pick T.F_law_pick.kp T.b_law_pick .nil pass0 (pa_cons (pv 1) (pa_cons pe_int pa_nil))) (fun _ _ => rfl)))
        (Evl.pss_cut (ps_if (pt_cmpR (op_eqU hr.units) (pe_call (ok_law_pick T) (hr.mono (by decide)) (by rfl) T.g_law_pick T.F_law_pick.kp T.b_law_pick .nil pass0 (pa_cons (pv 1) (pa_cons pe_int pa_nil))) pe_int (nomark _)) (pss_one (ps_asg (pe_call (ok_law_sheet T) (hr.mono (by decide)) (by rfl) T.g_law_sheet T.F_law_sheet.kp T.b_law_sheet .nil pass0 (pa_cons (pv 1) (pa_cons (pv 2) (pa_cons (pv 3) pa_nil)))) (pg_tup rfl (pgs_cons (pg_name (i := 4) sc_law.nd rfl (Or.inr rfl)) (pgs_cons (pg_name (i := 5) sc_law.nd rfl (Or.inl rfl)) (pgs_cons (pg_name (i := 6) sc_law.nd rfl (Or.inl rfl)) pgs_nil)))))) (pss_one (ps_asg (pe_call (ok_law_handed T) (hr.mono (by decide)) (by rfl) T.g_law_handed T.F_law_handed.kp T.b_law_handed .nil pass0 (pa_cons (pv 1) (pa_cons (pv 2) (pa_cons (pv 3) pa_nil)))) (pg_tup rfl (pgs_cons (pg_name (i := 4) sc_law.nd rfl (Or.inr rfl)) (pgs_cons (pg_name (i := 5) sc_law.nd rfl (Or.inl rfl)) (pgs_cons (pg_name (i := 6) sc_law.nd rfl (Or.inl rfl)) pgs_nil)))))))
        (pss_cons (ps_set (i := 7) sc_law.nd rfl (Or.inl rfl) (pe_call (ok_law_all T) (hr.mono (by decide)) (by rfl) T.g_law_all T.F_law_all.kp T.b_law_all .nil pass0 (pa_cons (pv 4) pa_nil)))
        (pss_cons (ps_set (i := 8) sc_law.nd rfl (Or.inl rfl) (pe_call (ok_law_closed T) (hr.mono (by decide)) (by rfl) T.g_law_closed T.F_law_closed.kp T.b_law_closed .nil pass0 (pa_cons (pv 4) pa_nil)))
        (pss_cons (ps_set (i := 9) sc_law.nd rfl (Or.inl rfl) (pe_call (ok_law_cuts T) (hr.mono (by decide)) (by rfl) T.g_law_cuts T.F_law_cuts.kp T.b_law_cuts .nil pass0 (pa_cons (pv 4) (pa_cons (pv 5) pa_nil))))
        (pss_cons (ps_set (i := 10) sc_law.nd rfl (Or.inl rfl) (pe_lst (pa_cons (pe_callTy call_tupU (by rfl) T.n_tuple (by decide +kernel) (pa_cons (pe_call (ok_law_laid T) (hr.mono (by decide)) (by rfl) T.g_law_laid T.F_law_laid.kp T.b_law_laid .nil pass0 (pa_cons (pv 4) (pa_cons (pe_tup pa_nil) pa_nil))) pa_nil)) pa_nil)))
        (pss_cons (ps_if (pt_not (pt_val (pe_call (ok_law_same T) (hr.mono (by decide)) (by rfl) T.g_law_same T.F_law_same.kp T.b_law_same .nil pass0 (pa_cons (pe_call (ok_own_keeper T) (hr.mono (by decide)) (by rfl) T.g_own_keeper T.F_own_keeper.kp T.b_own_keeper .nil pass0 (pa_cons (pv 4) pa_nil)) (pa_cons (pe_ix ix_seq (pv 10) pe_int (fun _ _ => rfl)) pa_nil))))) (pss_one (ps_ret pe_bl)) pss_nil)
        (pss_cons (ps_for PassesOwn.never rfl (pi_range1 (by rfl) T.n_range (pa_cons pe_int pa_nil)) (pg_name (i := 11) sc_law.nd rfl (Or.inl rfl)) (pss_cons (ps_set (i := 12) sc_law.nd rfl (Or.inl rfl) (pe_call (ok_law_choices T) (hr.mono (by decide)) (by rfl) T.g_law_choices T.F_law_choices.kp T.b_law_choices .nil pass0 (pa_cons (pv 1) (pa_cons (pe_op op_sub (pe_callB call_lenU (by rfl) T.n_len (by decide +kernel) (pa_cons (pv 4) pa_nil)) pe_int) pa_nil))))
        (pss_cons (ps_expr (pe_bm PySem.F.plainAttrs_list PySem.F.slot_list_append PySem.F.type_list_append mt_append (pv 10) (pa_cons (pe_callTy call_tupU (by rfl) T.n_tuple (by decide +kernel) (pa_cons (pe_call (ok_law_laid T) (hr.mono (by decide)) (by rfl) T.g_law_laid T.F_law_laid.kp T.b_law_laid .nil pass0 (pa_cons (pv 4) (pa_cons (pv 12) pa_nil))) pa_nil)) pa_nil)))
        (pss_one (ps_if (pt_not (pt_val (pe_call (ok_law_same T) (hr.mono (by decide)) (by rfl) T.g_law_same T.F_law_same.kp T.b_law_same .nil pass0 (pa_cons (pe_call (ok_laid_out T) (hr.mono (by decide)) (by rfl) T.g_laid_out T.F_laid_out.kp T.b_laid_out .nil pass0 (pa_cons (pv 4) (pa_cons (pv 12) pa_nil))) (pa_cons (pe_ix ix_seq (pv 10) (pe_un un_neg pe_int) (fun _ _ => rfl)) pa_nil))))) (pss_one (ps_ret pe_bl)) pss_nil)))))
        (pss_cons (ps_asg (pe_call (ok_law_pair T) (hr.mono (by decide)) (by rfl) T.g_law_pair T.F_law_pair.kp T.b_law_pair .nil pass0 (pa_cons (pv 1) (pa_cons (pv 8) (pa_cons pe_int pa_nil)))) (pg_tup rfl (pgs_cons (pg_name (i := 13) sc_law.nd rfl (Or.inl rfl)) (pgs_cons (pg_name (i := 14) sc_law.nd rfl (Or.inl rfl)) pgs_nil))))
        (pss_cons (ps_set (i := 15) sc_law.nd rfl (Or.inl rfl) (pe_op op_addU (pv 4) (pe_tup (pa_cons (pe_tup (pa_cons pe_int (pa_cons (pe_ix ix_seq (pv 7) (pv 13) (fun _ _ => rfl)) (pa_cons (pe_ix ix_seq (pv 7) (pv 14) (fun _ _ => rfl)) (pa_cons (pe_call (ok_law_say T) (hr.mono (by decide)) (by rfl) T.g_law_say T.F_law_say.kp T.b_law_say .nil pass0 (pa_cons (pv 1) (pa_cons pe_int pa_nil))) pa_nil))))) pa_nil))))
        (pss_cons (ps_set (i := 16) sc_law.nd rfl (Or.inl rfl) (pe_call (ok_law_cuts T) (hr.mono (by decide)) (by rfl) T.g_law_cuts T.F_law_cuts.kp T.b_law_cuts .nil pass0 (pa_cons (pv 15) (pa_cons (pe_op op_addU (pv 5) (pe_lst (pa_cons (pe_lst (pa_cons pe_int (pa_cons (pe_lc (own := [("_law_i", 19)]) (g := gName 19) rfl sc_law.nd (pi_range1 (by rfl) T.n_range (pa_cons (pe_callB call_lenU (by rfl) T.n_len (by decide +kernel) (pa_cons (pe_ix ix_seq (pe_ix ix_seq (pv 15) (pe_un un_neg pe_int) (fun _ _ => rfl)) pe_int (fun _ _ => rfl)) pa_nil)) pa_nil)) (blkOk_by (N := N_law) (sc := defScope s_law) (by decide +kernel)) (fun _ _ _ _ _ => pg_name (i := 19) sc_law.nd rfl (Or.inl rfl)) (fun _ _ _ _ _ => pts_nil) (fun _ _ _ _ _ => (pe_tup (pa_cons (pe_callB (k_len (K := K) rfl) (by rfl) T.n_len (by decide +kernel) (pa_cons (pv 4) pa_nil)) (pa_cons (pv 19) pa_nil))))) pa_nil))) pa_nil))) pa_nil))))
        (pss_cons (ps_for PassesOwn.never rfl (pi_list (pe_call (ok_law_stands T) (hr.mono (by decide)) (by rfl) T.g_law_stands T.F_law_stands.kp T.b_law_stands .nil pass0 (pa_cons (pv 2) (pa_cons (pv 3) pa_nil)))) (pg_name (i := 17) sc_law.nd rfl (Or.inl rfl)) (pss_cons (ps_set (i := 18) sc_law.nd rfl (Or.inl rfl) (pe_call (ok_law_due T) (hr.mono (by decide)) (by rfl) T.g_law_due T.F_law_due.kp T.b_law_due .nil pass0 (pa_cons (pv 4) (pa_cons (pv 5) (pa_cons (pv 7) (pa_cons (pv 8) (pa_cons (pv 17) pa_nil)))))))
        (pss_cons (ps_if (pt_not (PW.pt (pw_and (pt_val (pe_call (ok_law_holds T) (hr.mono (by decide)) (by rfl) T.g_law_holds T.F_law_holds.kp T.b_law_holds .nil pass0 (pa_cons (pv 4) (pa_cons (pv 9) (pa_cons (pv 17) (pa_cons (pv 18) pa_nil)))))) (pw_and1 (pt_val (pe_call (ok_law_holds T) (hr.mono (by decide)) (by rfl) T.g_law_holds T.F_law_holds.kp T.b_law_holds .nil pass0 (pa_cons (pv 15) (pa_cons (pv 9) (pa_cons (pv 17) (pa_cons (pv 18) pa_nil)))))))))) (pss_one (ps_ret pe_bl)) pss_nil)
        (pss_cons (ps_if (pt_not (pt_val (pe_call (ok_law_keepers T) (hr.mono (by decide)) (by rfl) T.g_law_keepers T.F_law_keepers.kp T.b_law_keepers .nil pass0 (pa_cons (pv 4) (pa_cons (pv 5) (pa_cons (pv 7) (pa_cons (pv 8) (pa_cons (pv 17) (pa_cons (pv 10) (pa_cons (pv 18) pa_nil)))))))))) (pss_one (ps_ret pe_bl)) pss_nil)
        (pss_one (ps_if (pt_not (pt_val (pe_call (ok_law_holds T) (hr.mono (by decide)) (by rfl) T.g_law_holds T.F_law_holds.kp T.b_law_holds .nil pass0 (pa_cons (pv 15) (pa_cons (pv 16) (pa_cons (pe_op op_or (pv 17) (pe_op op_shl pe_int pe_int)) (pa_cons (pv 18) pa_nil))))))) (pss_one (ps_ret pe_bl)) pss_nil))))))
        (pss_cons (ps_if (PW.pt (pw_or (pt_not (pt_val (pe_call (ok_law_same T) (hr.mono (by decide)) (by rfl) T.g_law_same T.F_law_same.kp T.b_law_same .nil pass0 (pa_cons (pv 9) (pa_cons (pe_call (ok_law_cuts T) (hr.mono (by decide)) (by rfl) T.g_law_cuts T.F_law_cuts.kp T.b_law_cuts .nil pass0 (pa_cons (pv 4) (pa_cons (pv 5) pa_nil))) pa_nil))))) (pw_or1 (pt_cmpR op_isnot_bl (pe_callK0 (ok_is_settled T) (hr.mono (by decide)) (by rfl) T.g_is_settled T.F_is_settled.kp T.kb_is_settled pass0 (pk_cons pe_int (pk_cons (pv 9) (pk_cons (pv 4) pk_nil)))) pe_bl (nomark _))))) (pss_one (ps_ret pe_bl)) pss_nil)
        (Evl.pss_cut (ps_if (PW.pt (pw_and (pt_cmpR (op_eqU hr.units) (pe_call (ok_law_pick T) (hr.mono (by decide)) (by rfl) T.g_law_pick T.F_law_pick.kp T.b_law_pick .nil pass0 (pa_cons (pv 1) (pa_cons pe_int pa_nil))) pe_int (nomark _)) (pw_and1 (pt_not (pt_val (pe_call (ok_law_chain_holds T) hr (by rfl) T.g_law_chain_holds T.F_law_chain_holds.kp T.b_law_chain_holds .nil pass0 (pa_cons (pv 1) pa_nil))))))) (pss_one (ps_ret pe_bl)) pss_nil)
        (pss_one (ps_ret (pe_call (ok_law_same T) (hr.mono (by decide)) (by rfl) T.g_law_same T.F_law_same.kp T.b_law_same .nil pass0 (pa_cons (pe_callK0 (ok_row_of T) (hr.mono (by decide)) (by rfl) T.g_row_of T.F_row_of.kp T.kb_row_of passL (pk_cons pe_int (pk_cons (pv 9) (pk_cons (pv 4) pk_nil)))) (pa_cons (pe_tup pa_nil) pa_nil))))))))))))))))))))), ?_⟩
    walk_at "rd"
    refine ⟨a0, ns, rfl, hS, hns, fun b h H1 e1 hb hh bx1 => ?_⟩
    walk_at "rd"
    refine r_small nsz fun pq n2 => ?_
    obtain ⟨H2, k2, e2, h2⟩ := nL (.lst [.int 5, .int 4, .int 5, .int 3, .int 4, .int 2, .int 1, .int 5]) n2
    rw [← k2]
    walk_at "rd"
    refine ⟨b, h, 8, rfl, bx1.up e2, by decide, by decide, fun d3 H3 d30 d31 D3 => ?_⟩
    obtain ⟨many, hmany, many1, many5⟩ : ∃ k : Nat, atI [V.int 5, .int 4, .int 5, .int 3, .int 4, .int 2, .int 1, .int 5] d3 = some (.int (k : Nat)) ∧ 1 ≤ k ∧ k ≤ 5 := by
      have c : d3 = 0 ∨ d3 = 1 ∨ d3 = 2 ∨ d3 = 3 ∨ d3 = 4 ∨ d3 = 5 ∨ d3 = 6 ∨ d3 = 7 := by omega
      rcases c with rfl | rfl | rfl | rfl | rfl | rfl | rfl | rfl
      · exact ⟨5, rfl, by decide, by decide⟩
      · exact ⟨4, rfl, by decide, by decide⟩
      · exact ⟨5, rfl, by decide, by decide⟩
      · exact ⟨3, rfl, by decide, by decide⟩
      · exact ⟨4, rfl, by decide, by decide⟩
      · exact ⟨2, rfl, by decide, by decide⟩
      · exact ⟨1, rfl, by decide, by decide⟩
      · exact ⟨5, rfl, by decide, by decide⟩
    walk_at "rd"
    refine r_ixL (sqL (D3.hh _ _ (bx1.nb n2) (bx1.nh n2) h2)) hmany ?_
    walk_at "rd"
    refine r_small nsz fun pq n4 => ?_
    obtain ⟨H4, k4, e4, h4⟩ := nL (.lst [.int 0, .int 0, .int 1, .int 2]) n4
    rw [← k4]
    have D04 : Dr2 b h H1 H4 := ((Dr2.ex bx1 e2).trans D3).then e4
    have pq0 : H1 pq = none := ((Dr2.ex bx1 e2).trans D3).fresh n4
    walk_at "rd"
    refine ⟨b, h, 4, rfl, D04.st, by decide, by decide, fun d5 H5 d50 d51 D5 => ?_⟩
    obtain ⟨k, hk⟩ : ∃ k : Nat, atI [V.int 0, .int 0, .int 1, .int 2] d5 = some (.int (k : Nat)) := by
      have c : d5 = 0 ∨ d5 = 1 ∨ d5 = 2 ∨ d5 = 3 := by omega
      rcases c with rfl | rfl | rfl | rfl
      · exact ⟨0, rfl⟩
      · exact ⟨0, rfl⟩
      · exact ⟨1, rfl⟩
      · exact ⟨2, rfl⟩
    walk_at "rd"
    refine r_ixL (sqL (D5.hh _ _ (bx1.nb pq0) (bx1.nh pq0) h4)) hk ?_
    have bx5 := (D04.trans D5).st
    clear D3 D04 D5 h4 h2 k2 k4 e2 e4 n2 n4 pq0 hk hmany
    walk_at "rd"
    refine ⟨fun σ H' => ∃ wv pl pm W lots ms, Dr2 b h H5 H' ∧ Ww W lots ms ∧ WdV K H' wv W ∧ LtV (fun a => a ≠ b ∧ a ≠ h) K H' (.ref pl) lots ∧ σ = [some (.ref a0), some (.ref b), some (.int (many : Nat)), some (.int (k : Nat)), some wv, some (.ref pl), some (.ref pm), none, none, none, none, none, none, none, none, none, none, none, none, none], ?_, ?_⟩
    · walk_at "rd"
      refine ⟨b, h, 2, rfl, bx5, by decide, by decide, fun z H6 z0 z1 D6 => ?_⟩
      walk_at "rd"
      refine r_ite (fun _ => ?_) (fun _ => ?_)
      · walk_at "rd"
        refine ⟨b, h, k, many, rfl, D6.st, many1, by omega, fun p H7 W lots ms D7 ww ⟨wv, pl, pm, hp, wd, lt, m1, m2, hm⟩ => ?_⟩
        refine r_gtup (sqT hp) rfl ?_
        walk_at "rd"
        exact ⟨wv, pl, pm, W, lots, ms, D6.trans D7, ww, wd, lt, rfl⟩
      · walk_at "rd"
        refine ⟨b, h, k, many, rfl, D6.st, many1, by omega, fun p H7 W lots ms D7 ww ⟨wv, pl, pm, hp, wd, lt, m1, m2, hm⟩ => ?_⟩
        refine r_gtup (sqT hp) rfl ?_
        walk_at "rd"
        exact ⟨wv, pl, pm, W, lots, ms, D6.trans D7, ww, wd, lt, rfl⟩
    rintro σ H6 ⟨wv, pl, pm, W, lots, ms, D6, ww, wd6, lt6, rfl⟩
    have bx6 := D6.st
    have gw := ww.gw
    have gt := ww.gt
    have gc := gc_of gw gt.nd gt.few gt.mk9
    obtain ⟨pw, xw, rfl, hpw, hxw⟩ := id wd6
    walk_at "rd"
    refine ⟨pw, lf W, rf W, Wd.sz W, W.length, H6, rfl, Same.refl H6, wr_of wd6 gw, fun pmk G7 H7 mk t7 nmk hmk hms => ?_⟩
    have e7 := t7.same
    have hmk7 : H7 pmk = some (.lst mk) := t7.gh _ _ hmk
    have hms7 : SgL K H7 mk (marks (Wd.sz W) W.length) := p2_imm (.ex t7.gh) hms
    have wd7 := imm (R := WdV K) (.ex e7) wd6
    walk_at "rd"
    refine ⟨pw, lf W, rf W, Wd.sz W, W.length, rfl, wr_of wd7 gw, fun ptb H8 U e8 ntb htb tl => ?_⟩
    have e68 := e7.trans e8
    have wd8 := imm (R := WdV K) (.ex e8) wd7
    have mk9 := gt.mk9
    have ul : U.length ≤ 1000 := by
      rw [tl.1, ← marks_len]
      omega
    walk_at "rd"
    refine ⟨_, .ref pw, .ref pl, W, lots, rfl, wd8, gw, lt6.up e68, gt, fun dg H9 e9 ndg ct9 => ?_⟩
    have e69 := e68.trans e9
    have bx9 := bx6.up e69
    obtain ⟨G, hG⟩ : ∃ G, G = strip H9 b h := ⟨_, rfl⟩
    have w9 : W2 b h G H9 := by rw [hG]; exact strip_w bx9
    have tG : Tk H9 G := by rw [hG]; exact strip_tk bx9
    have wdG : WdV K G (.ref pw) W := imm (R := WdV K) ((Tk.ex e9).trans tG) wd8
    have ltG : LtV (fun _ => True) K G (.ref pl) lots := by rw [hG]; exact LtV.strip bx9 (lt6.up e69)
    have n1b := bx6.nb nmk
    have n1h := bx6.nh nmk
    have n2b := (bx6.up e7).nb ntb
    have n2h := (bx6.up e7).nh ntb
    have n3b := (bx6.up e68).nb ndg
    have n3h := (bx6.up e68).nh ndg
    have mtG : Mt K G (.ref pmk) (.ref ptb) W U := ⟨⟨pmk, mk, rfl, by rw [hG, strip_at n1b n1h]; exact e9 _ _ (e8 _ _ hmk7), p2_imm (R := SgV K) ((Tk.ex (e8.trans e9)).trans tG) hms7⟩, ⟨ptb, rfl, by rw [hG, strip_at n2b n2h]; exact e9 _ _ htb⟩, tl, ul⟩
    have ctG : CtV K G (.ref dg) (ctsOf W lots) := by rw [hG]; exact CtV.strip bx9 n3b n3h ct9
    clear hG tG wd6 wd7 wd8 lt6 hms7 hmk7 hms hmk t7 htb hpw hxw e7 e8 e68 e69 e9 bx6 bx5 D6 n1b n1h n2b n2h n3b n3h ct9
    walk_at "rd"
    refine r_small nsz fun p10 n10 => ?_
    obtain ⟨H10, k10, e10, t10⟩ := nT (R := NumV) K n10 (.nil : P2 (NumV H9) [] [])
    rw [← k10]
    walk_at "rd"
    refine ⟨.ref pw, .ref p10, W, [], rfl, imm (R := WdV K) (.ex (w9.g.trans e10)) wdG, gw, t10, by decide, fun p11 H11 x11 e11 n11 h11 hx11 => ?_⟩
    walk_at "rd"
    refine r_tupLV (R := SgV K) h11 hx11 fun p12 H12 n12 e12 t12 => ?_
    walk_at "rd"
    refine r_small nsz fun pk n13 => ?_
    obtain ⟨H13, k13, e13, h13⟩ := nL (.lst [.ref p12]) n13
    rw [← k13]
    have e912 := (e10.trans e11).trans e12
    have w13 := w9.ex (e912.trans e13)
    have D913 := Dr2.ex bx9 (e912.trans e13)
    have pk0 : H9 pk = none := (Dr2.ex bx9 e912).fresh n13
    have pkb := bx9.nb pk0
    have pkh := bx9.nh pk0
    have t13 := imm (R := TupV K (SgV K)) (.ex e13) t12
    have kpl : ∀ ch, (laid W ch W.length).length ≤ 800 := fun ch => row_lens gw (laid_kp gw.wv (ch := ch) W.length gw.wv.n0 (Nat.le_refl _)) (Nat.le_refl _)
    walk_at "rd"
    refine ⟨.ref pw, W, rfl, imm (R := WdV K) (.ex w13.g) wdG, gw, fun p14 H14 e14 t14 => ?_⟩
    walk_at "rd"
    refine r_ixL (sqL (e14 _ _ h13)) (atI_nat (j := 0) rfl) ?_
    walk_at "rd"
    refine ⟨_, _, rfl, sgs_same (d := 3) t14 (imm (R := TupV K (SgV K)) (.ex e14) t13) (by have := kpl []; omega), fun H15 e15 => ?_⟩
    have e1315 := e14.trans e15
    have D915 := D913.then e1315
    have h15 := e1315 _ _ h13
    have t15 := imm (R := TupV K (SgV K)) (.ex e1315) t13
    have w15 := w13.ex e1315
    clear t10 h11 hx11 t12 t13 t14 h13 k10 k13 e10 e11 e12 e13 e14 e15 e1315 e912 n10 n11 n12 D913 w13
    walk_at "rd"
    refine l_R (by decide) (by decide) (fun i σ H' => ∃ (ks : List V) (chs : List (List Int)) (y11 y12 : Option V), σ = [some (.ref a0), some (.ref b), some (.int (many : Nat)), some (.int (k : Nat)), some (.ref pw), some (.ref pl), some (.ref pm), some (.ref pmk), some (.ref ptb), some (.ref dg), some (.ref pk), y11, y12, none, none, none, none, none, none, none] ∧ Dr2 b h H9 H' ∧ H' pk = some (.lst ks) ∧ P2 (fun v ch => TupV K (SgV K) H' v (laid W ch W.length)) ks chs ∧ chs.length = i + 1)
      ⟨[.ref p12], [[]], none, none, rfl, D915, h15, .cons t15 .nil, rfl⟩ (fun i σ H' hi hW => ?_) (fun σ H16 hW => ?_)
    · obtain ⟨ks, chs, y11, y12, rfl, D, hpk, hks, len⟩ := hW
      have kl := hks.len
      have wc := w9.dr D
      walk_at "rd"
      refine r_lenTV (imm (R := WdV K) (.ex wc.g) wdG) ?_
      walk_at "rd"
      have wl0 := gw.wv.n0
      have wl9 : W.length ≤ 99 := by
        have := len_off gw W.length (Nat.le_refl _)
        rw [marks_len] at mk9
        omega
      rw [show ((W.length : Nat) : Int) - 1 = ((W.length - 1 : Nat) : Int) by omega]
      refine ⟨b, h, W.length - 1, rfl, D.st, by omega, fun pc H2 ch D2 tc lc => ?_⟩
      have D02 := D.trans D2
      have w2 := w9.dr D02
      have hpk2 := D2.hh _ _ pkb pkh hpk
      have hks2 : P2 (fun v ch => TupV K (SgV K) H2 v (laid W ch W.length)) ks chs := hks.imp fun _ _ z => imm (R := TupV K (SgV K)) (dr2_tk D.st D2) z
      walk_at "rd"
      refine r_tyL (sqL hpk2) ?_
      walk_at "rd"
      refine ⟨.ref pw, .ref pc, W, ch, rfl, imm (R := WdV K) (.ex w2.g) wdG, gw, tc, by omega, fun p3 H3 x3 e3 n3 h3 hx3 => ?_⟩
      walk_at "rd"
      refine r_tupLV (R := SgV K) h3 hx3 fun p4 H4 n4 e4 t4 => ?_
      have e24 := e3.trans e4
      have hpk4 := e24 _ _ hpk2
      walk_at "rd"
      refine r_app hpk4 (Nat.lt_of_le_of_lt (show ks.length ≤ 1000 by omega) (by decide)) ?_
      have tp := Tk.put (o := .lst (ks ++ [.ref p4])) hpk4
      have D05 := (D02.then e24).mut (o := .lst (ks ++ [.ref p4])) pk0 pkb pkh
      have h5 : (upd H4 pk (.lst (ks ++ [.ref p4]))) pk = some (.lst (ks ++ [.ref p4])) := upd_same
      have hk5 : P2 (fun v ch => TupV K (SgV K) (upd H4 pk (.lst (ks ++ [.ref p4]))) v (laid W ch W.length)) (ks ++ [.ref p4]) (chs ++ [ch]) := (hks2.imp fun _ _ z => imm (R := TupV K (SgV K)) ((Tk.ex e24).trans tp) z).snoc (imm (R := TupV K (SgV K)) tp t4)
      have tc5 := imm (R := TupV K NumV) ((Tk.ex e24).trans tp) tc
      have t5 := imm (R := TupV K (SgV K)) tp t4
      obtain ⟨H5, hH5⟩ : ∃ X, upd H4 pk (.lst (ks ++ [.ref p4])) = X := ⟨_, rfl⟩
      rw [hH5] at D05 h5 hk5 tc5 t5 ⊢
      have w5 := w9.dr D05
      walk_at "rd"
      refine ⟨.ref pw, .ref pc, W, ch, rfl, imm (R := WdV K) (.ex w5.g) wdG, gw, tc5, fun p6 H6 e6 t6 => ?_⟩
      walk_at "rd"
      refine r_ixL (sqL (e6 _ _ h5)) (atI_last _ _) ?_
      walk_at "rd"
      refine ⟨_, _, rfl, sgs_same (d := 3) t6 (imm (R := TupV K (SgV K)) (.ex e6) t5) (by have := kpl ch; omega), fun H7 e7 => ?_⟩
      walk_at "rd"
      have e57 := e6.trans e7
      exact ⟨_, _, _, _, rfl, D05.then e57, e57 _ _ h5, hk5.imp fun _ _ z => imm (R := TupV K (SgV K)) (.ex e57) z, by rw [List.length_append, len]; rfl⟩
    obtain ⟨ks, chs, y11, y12, rfl, D16, hpk16, hks16, _⟩ := hW
    clear D915 h15 t15 w15
    have w16 := w9.dr D16
    have bx16 := D16.st
    obtain ⟨G2, hG2⟩ : ∃ G2, G2 = strip H16 b h := ⟨_, rfl⟩
    have eG : Ex G G2 := by rw [hG2]; exact strip_ex w16
    have wG2 : W2 b h G2 H16 := by rw [hG2]; exact strip_w bx16
    have wd2 := imm (R := WdV K) (.ex eG) wdG
    have lt2 := ltG.up eG
    have mt2 := mtG.up eG
    have ct2 := ctG.up eG
    have hpk2 : G2 pk = some (.lst ks) := by rw [hG2, strip_at pkb pkh]; exact hpk16
    have hks2 : P2 (fun v ch => TupV K (SgV K) G2 v (laid W ch W.length)) ks chs := hks16.imp fun _ _ z => imm (R := TupV K (SgV K)) (by rw [hG2]; exact strip_tk bx16) z
    clear hG2 eG wdG ltG mtG ctG hpk16 hks16 w16 w9 pk0 D16
    obtain ⟨⟨pmk', mk', epm, hmkG, hmsG⟩, ⟨ptb', ept, htbG⟩, _, _⟩ := id mt2
    cases epm
    cases ept
    walk_at "rd"
    refine ⟨b, h, ptb, lf W, rf W, Wd.sz W, W.length, U, 0, G2, rfl, wG2, htbG, gw.wv, tl, ul, fun pp G17 H17 x y k17 hpp hx hy hxy => ?_⟩
    have D17 := dr2_of k17
    obtain ⟨sx, sy, ox, oy, ex, ey, iff⟩ := tl.bit_lt hx hy
    have hA := iff.mp hxy
    refine r_gtup (sqT (k17.g hpp)) rfl ?_
    have w17 := wG2.dr D17
    have gx := marks_at ox
    rw [ex] at gx
    have gy := marks_at oy
    rw [ey] at gy
    walk_at "rd"
    refine r_ixLV (w17.g _ _ hmkG) (p2_imm (R := SgV K) (.ex w17.g) hmsG) gx fun u1 su1 => ?_
    walk_at "rd"
    refine r_ixLV (w17.g _ _ hmkG) (p2_imm (R := SgV K) (.ex w17.g) hmsG) gy fun u2 su2 => ?_
    walk_at "rd"
    refine ⟨b, h, 3, rfl, D17.st, by decide, by decide, fun t H18 t0 t1 D18 => ?_⟩
    have y18 := dr2_tk D17.st D18
    have D018 := D17.trans D18
    have w18 := wG2.dr D018
    walk_at "rd"
    refine r_small nsz fun p19 n19 => ?_
    obtain ⟨H19, k19, e19, h19⟩ := nL (.tup [.int 290, u1, u2, .str t]) n19
    rw [← k19]
    have b19 : BiV K H19 (.ref p19) ⟨290, sx, sy, t⟩ := ⟨p19, u1, u2, rfl, .inl h19, imm (R := SgV K) (y18.trans (.ex e19)) su1, imm (R := SgV K) (y18.trans (.ex e19)) su2⟩
    walk_at "rd"
    refine r_small nsz fun p20 n20 => ?_
    obtain ⟨H20, k20, e20, t20⟩ := nT (R := BiV K) K n20 (.cons b19 .nil)
    rw [← k20]
    have w20 := (w18.ex e19).ex e20
    have wl9 : W.length ≤ 99 := by
      have := len_off gw W.length (Nat.le_refl _)
      rw [marks_len] at mk9
      omega
    walk_at "rd"
    refine r_catTV (imm (R := WdV K) (.ex w20.g) wd2) t20 (by simp; omega) fun vw H21 e21 tw => ?_
    obtain ⟨bi, hbi⟩ : ∃ bi : Bi, bi = ⟨290, sx, sy, t⟩ := ⟨_, rfl⟩
    have bw : bi.who = 290 := by rw [hbi]
    have bt : bi.t = t := by rw [hbi]
    rw [← hbi] at tw
    have m90 := ww.m90
    have tl3 : t.length ≤ 3 := by omega
    have gw' : Gw (W ++ [bi]) := by
      rw [hbi]
      refine gw_snocT gw ox oy hA t0 (by show t.length ≤ 12; omega) (show 290 < 300 by decide) (by omega) ?_
      rw [marks_len] at mk9
      show _ + t.length ≤ 750
      omega
    have w21 := w20.ex e21
    have D021 := (D018.then (e19.trans e20)).then e21
    obtain ⟨rw_, xxw, rfl, htw, hxx⟩ := id tw
    clear k19 k20 b19 t20 h19 su1 su2 w17 w18 w20 gx gy y18
    obtain ⟨pl', xl, epl, _, hpl, hxl⟩ := id lt2
    cases epl
    have few := ww.fw
    have xll := hxl.len
    walk_at "rd"
    refine r_ixTm tw fun ub hub => ?_
    walk_at "rd"
    refine r_biT hub ?_
    rw [bt]
    walk_at "rd"
    refine r_lenS (by rw [sizeLine_eq]; omega) ?_
    walk_at "rd"
    refine l_lcR (by omega) (by omega) (fun D i H' => Ex H21 H' ∧ ∃ acc, H' D = some (.lst acc) ∧ SgL K H' acc ((List.range i).map fun j => (W.length, j))) (fun D hD => ⟨Same.new (Same.refl H21) hD, [], upd_same, .nil⟩) (fun D i H' hD hi hW => ?_) (fun D H22 hD hW => ?_)
    · obtain ⟨e, acc, ha, hA⟩ := hW
      have al := hA.len
      rw [List.length_map, List.length_range] at al
      walk_at "rd"
      refine ⟨rfl, ?_⟩
      walk_at "rd"
      refine r_lenTV (imm (R := WdV K) (.ex (w21.g.trans e)) wd2) ?_
      walk_at "rd"
      refine r_small nsz fun p4 n4 => ?_
      obtain ⟨H4, k4, e4, s4⟩ := nS K (a := (W.length : Nat)) (b := (i : Nat)) (i := W.length) (j := i) n4 rfl rfl
      rw [← k4]
      have ha4 := e4 _ _ ha
      have tp := Tk.put (o := .lst (acc ++ [.ref p4])) ha4
      refine ⟨acc, ha4, Nat.lt_of_le_of_lt (show acc.length ≤ 1000 by omega) (by decide), Same.mut (e.trans e4) hD, acc ++ [.ref p4], upd_same, ?_⟩
      rw [List.range_succ, List.map_append]
      exact (p2_imm (R := SgV K) ((Tk.ex e4).trans tp) hA).snoc (imm (R := SgV K) tp s4)
    obtain ⟨e22, acc, ha22, hA22⟩ := hW
    rw [Int.toNat_natCast] at hA22
    walk_at "rd"
    refine r_small nsz fun p23 n23 => ?_
    obtain ⟨H23, k23, e23, h23⟩ := nL (.lst [.int 290, .ref D]) n23
    rw [← k23]
    walk_at "rd"
    refine r_small nsz fun p24 n24 => ?_
    obtain ⟨H24, k24, e24, h24⟩ := nL (.lst [.ref p23]) n24
    rw [← k24]
    have w24 := ((w21.ex e22).ex e23).ex e24
    walk_at "rd"
    refine r_addL (w24.g _ _ hpl) h24 (Nat.le_trans (show _ ≤ 1000 by simp; omega) (by decide)) fun p25 n25 => ?_
    obtain ⟨H25, k25, e25, h25⟩ := nL (.lst (xl ++ [.ref p23])) n25
    rw [← k25]
    have w25 := w24.ex e25
    have e2225 := (e23.trans e24).trans e25
    have e2125 := e22.trans e2225
    obtain ⟨lots', hlots'⟩ : ∃ l, l = lots ++ [(290, (List.range bi.t.length).map fun i => (W.length, i))] := ⟨_, rfl⟩
    have lt' : LtV (fun _ => True) K H25 (.ref p25) lots' := by
      rw [hlots', bt]
      refine ltv_of trivial h25 (P2.snoc (P2.imp hxl fun _ _ z => LtE.keep (fun a o _ e => w25.g _ _ e) (.ex w25.g) z) ⟨p23, D, acc, rfl, trivial, trivial, e25 _ _ (e24 _ _ h23), e2225 _ _ ha22, p2_imm (R := SgV K) (.ex e2225) hA22⟩)
    have gt' : Gtl (W ++ [bi]) lots' := ⟨by
      rw [hlots', List.map_append, List.nodup_append]
      refine ⟨gt.nd, by simp, fun x hx y hy e => ?_⟩
      have hy : y = 290 := List.mem_singleton.mp hy
      obtain ⟨e0, he0, rfl⟩ := List.mem_map.mp hx
      exact ww.n290 e0 he0 (e.trans hy), by rw [hlots', List.length_append, List.length_singleton]; omega, by
      rw [marks_len] at m90 ⊢
      rw [sz_snoc gw.wv.n0, len_snoc]
      show off (upn (Wd.sz W) W.length bi.t.length) W.length + upn (Wd.sz W) W.length bi.t.length W.length ≤ 99
      rw [off_upn, upd_at, bt]
      omega⟩
    have gc' := gc_of gw' gt'.nd gt'.few gt'.mk9
    walk_at "rd"
    refine ⟨_, .ref rw_, .ref p25, W ++ [bi], lots', rfl, imm (R := WdV K) (.ex e2125) tw, gw', lt', gt', fun dx H26 e26 ndx ctx => ?_⟩
    have w26 := w25.ex e26
    have tw26 := imm (R := WdV K) (.ex (e2125.trans e26)) tw
    clear k23 k24 k25 h23 h24 h25 ha22 hA22 hub lt' htw hxx
    walk_at "rd"
    refine ⟨k, many, rfl, many5, fun p27 H27 ms27 e27 n27 h27 l27 b27 => ?_⟩
    have w27 := w26.ex e27
    have D027 := ((D021.then e2125).then e26).then e27
    have tw27 := imm (R := WdV K) (.ex e27) tw26
    have ct27 := ctx.up e27
    walk_at "rd"
    refine l_L (sqL h27) (fun i σ H' => Ex H27 H' ∧ ∃ y17 y18, σ = [some (.ref a0), some (.ref b), some (.int (many : Nat)), some (.int (k : Nat)), some (.ref pw), some (.ref pl), some (.ref pm), some (.ref pmk), some (.ref ptb), some (.ref dg), some (.ref pk), y11, y12, some (.int (x : Nat)), some (.int (y : Nat)), some (.ref rw_), some (.ref dx), y17, y18, none]) ⟨Same.refl H27, none, none, rfl⟩ (fun i σ H' hW => sqL (hW.1 _ _ h27)) (fun i v σ H28 hv hW => ?_) (fun σ H28 hW => ?_)
    · obtain ⟨e28, y17, y18, rfl⟩ := hW
      obtain ⟨s0, hs0, rfl⟩ := tb_get hv
      have h9 : s0.testBit 290 = false := by
        cases c : s0.testBit 290 with
        | false => rfl
        | true =>
          obtain ⟨f, f1, f2, f3⟩ := b27 s0 (List.mem_of_getElem? hs0) 290 c
          exact absurd f3.symm (numf_290 f1 (by omega))
      have w28 := w27.ex e28
      walk_at "rd"
      refine ⟨.ref pw, .ref pl, pmk, ptb, W, lots, U, s0, rfl, imm (R := WdV K) (.ex w28.g) wd2, gw, lt2.up w28.g, mt2.up w28.g, fun u o H29 e29 hf hd => ?_⟩
      have w29 := w28.ex e29
      have okR : ∀ x ∈ ownRow W (ctsOf W lots) s0, OkW W x := fun x hx => ((own_ok gw (ctsOf W lots) s0).1 x hx).1
      walk_at "rd"
      refine ⟨.ref pw, .ref dg, u, W, _, s0, _, _, o, rfl, imm (R := WdV K) (.ex w29.g) wd2, gw, ct2.up w29.g, gc, rfl, rfl, hf, hd, fun H30 e30 => ?_⟩
      have w30 := w29.ex e30
      walk_at "rd"
      refine ⟨.ref rw_, .ref dg, u, W ++ [bi], _, s0, _, _, o, rfl, imm (R := WdV K) (.ex ((e28.trans e29).trans e30)) tw27, gw', ct2.up w30.g, gc, wide_row gw bw h9 _, wide_letters okR, wide_fu gw okR hf, hd.up e30, fun H31 e31 => ?_⟩
      have w31 := w30.ex e31
      have e2931 := e30.trans e31
      walk_at "rd"
      refine ⟨.ref pw, .ref pl, u, pmk, ptb, pk, W, lots, U, s0, ks, chs, _, o, rfl, imm (R := WdV K) (.ex w31.g) wd2, gw, lt2.up w31.g, gt, mt2.up w31.g, w31.g _ _ hpk2, hks2.imp fun _ _ z => imm (R := TupV K (SgV K)) (.ex w31.g) z, hf, hd.up e2931, fun H32 e32 => ?_⟩
      have e2932 := e2931.trans e32
      walk_at "rd"
      refine r_I ⟨by omega, by omega, by omega⟩ ?_
      walk_at "rd"
      have eo : Builtin.bitOr ((s0 : Nat) : Int) (1 * 2 ^ (290 : Int).toNat) = ((s0 ||| 1 <<< 290 : Nat) : Int) := or1_val s0 290
      rw [eo]
      have wc := wide_cut (bi := bi) (lots := lots) gw gw' bw h9 ww.who ww.n290
      rw [← hlots'] at wc
      refine ⟨.ref rw_, .ref dx, u, W ++ [bi], _, _, _, _, o, rfl, imm (R := WdV K) (.ex ((e28.trans e29).trans e2932)) tw27, gw', ct27.up ((e28.trans e29).trans e2932), gc', wc, wide_letters okR, wide_fu gw okR hf, hd.up e2932, fun H33 e33 => ?_⟩
      walk_at "rd"
      exact ⟨((e28.trans e29).trans e2932).trans e33, _, _, rfl⟩
    obtain ⟨e28, y17, y18, rfl⟩ := hW
    have w28 := w27.ex e28
    have D028 := D027.then e28
    have ct28 := ct2.up w28.g
    walk_at "rd"
    refine ⟨_, .ref pw, .ref pl, W, lots, rfl, imm (R := WdV K) (.ex w28.g) wd2, gw, lt2.up w28.g, gt, fun dg2 H29 e29 nd29 ct29 => ?_⟩
    walk_at "rd"
    refine ⟨_, _, rfl, ct_same gc (ct28.up e29) ct29, fun H30 e30 => ?_⟩
    have w30 := (w28.ex e29).ex e30
    have z0 : ∀ cts, ownRow W cts 0 = [] := own_none (fun c b _ _ => Nat.zero_testBit _) gw
    have z1 : ∀ cts, ownRow W cts 1 = [] := own_none (fun c b c0 hb => by
      have := (ww.who c b c0 hb).1
      cases cc : (1 : Nat).testBit b.who with
      | false => rfl
      | true =>
        have := bits_le (n := 1) (show 1 < 2 ^ 1 by decide) cc
        omega) gw
    have fn : Fu W [] none := fun i x y hx _ => by cases hx
    walk_at "rd"
    refine ⟨.ref pw, .ref dg, W, _, 0, rfl, imm (R := WdV K) (.ex w30.g) wd2, gw, ct2.up w30.g, gc, fun c o H31 e31 hf hc => ?_⟩
    rw [z0] at hf
    obtain rfl := fn.det hf
    obtain rfl : c = true := hc.mpr rfl
    walk_at "rd"
    refine ⟨true, true, rfl, rfl, ?_⟩
    rw [decide_eq_true (rfl : true = true)]
    walk_at "rd"
    have w31 := w30.ex e31
    have D031 := ((D028.then e29).then e30).then e31
    refine ⟨fun σ H' => Dr2 b h H31 H' ∧ σ = [some (.ref a0), some (.ref b), some (.int (many : Nat)), some (.int (k : Nat)), some (.ref pw), some (.ref pl), some (.ref pm), some (.ref pmk), some (.ref ptb), some (.ref dg), some (.ref pk), y11, y12, some (.int (x : Nat)), some (.int (y : Nat)), some (.ref rw_), some (.ref dx), y17, y18, none], ?_, ?_⟩
    · refine r_ifS ?_
      refine any_test (S := fun t H' => t = false ∧ Dr2 b h H31 H') (fun QB kk => ?_) (fun t H' hS => ?_)
      · walk_at "rd"
        refine ⟨b, h, 16, rfl, D031.st, by decide, by decide, fun z Ha z0 z1 Da => ?_⟩
        walk_at "rd"
        refine r_ite (fun _ => ?_) (fun _ => kk _ _ ⟨rfl, Da⟩)
        walk_at "rd"
        refine ⟨b, h, rfl, Da.st, fun Hb Db => ?_⟩
        walk_at "rd"
        exact kk _ _ ⟨rfl, Da.trans Db⟩
      · obtain ⟨rfl, D⟩ := hS
        walk_at "rd"
        exact ⟨D, rfl⟩
    rintro σ H32 ⟨D32, rfl⟩
    have w32 := w31.dr D32
    walk_at "rd"
    refine ⟨.ref pw, .ref dg, W, _, 1, rfl, imm (R := WdV K) (.ex w32.g) wd2, gw, ct2.up w32.g, gc, fun p33 H33 e33 hf t33 => ?_, fun a c H' d va vc e hd hf => ?_⟩
    · rw [z1] at t33
      walk_at "rd"
      refine r_small nsz fun p34 n34 => ?_
      obtain ⟨H34, k34, e34, t34⟩ := nT (R := SgV K) K n34 (.nil : P2 (SgV K H33) [] [])
      rw [← k34]
      refine ⟨_, _, rfl, sgs_same (d := 3) (imm (R := TupV K (SgV K)) (.ex e34) t33) t34 (by decide), fun H35 e35 => ?_⟩
      exact q _
    · rw [z1] at hf
      cases fn.det hf
end
/-- an error of the class at S is what «except S» names -/
theorem exm_self {K : PySem.W.Frag} {S : Addr} (h1 : PySem.W.subIn K (.ref S) (.type "BaseException") = some true) (h2 : PySem.W.isClsIn K S = true) (h3 : PySem.W.typeIn K (.ref S) = some (.type "type")) (h4 : PySem.W.subIn K (.ref S) (.ref S) = some true) :
    PySem.W.exmOne K (.ref S) (.ref S) = some true := by
  have e1 : (PySem.W.subIn K (.ref S) (.type "BaseException") == some true) = true := by rw [h1] <;> rfl
  have e2 : ((PySem.W.clsIn K S).isSome && PySem.W.typeIn K (.ref S) == some (.type "type")) = true := by
    have h2' : (PySem.W.clsIn K S).isSome = true := h2
    rw [h2', h3] <;> rfl
  show (if (PySem.W.subIn K (.ref S) (.type "BaseException") == some true) = true then (if ((PySem.W.clsIn K S).isSome && PySem.W.typeIn K (.ref S) == some (.type "type")) = true then PySem.W.subIn K (.ref S) (.ref S) else none) else none) = some true
  rw [if_pos e1, if_pos e2]
  exact h4
theorem all_mk {l : PySem.W.OpenLaw} {w : World} {K : PySem.W.Frag} {h : Heap} {mg : Str → Option Value} {fa : Addr} (X : K.In h) (G : h.Ns mainGlobals mg) (hfa : mg "law" = some (.ref fa))
    {f_hops_of : Addr} {od_hops_of an_hops_of : Option Addr} {sl_hops_of : Array (Option Value)} {oc_hops_of kV_hops_of dc_hops_of pm_hops_of cd_hops_of ct_hops_of : Value}
    {f_told_ahead : Addr} {od_told_ahead an_told_ahead : Option Addr} {sl_told_ahead : Array (Option Value)} {oc_told_ahead kV_told_ahead dc_told_ahead pm_told_ahead cd_told_ahead ct_told_ahead : Value}
    {f_at_or_ahead : Addr} {od_at_or_ahead an_at_or_ahead : Option Addr} {sl_at_or_ahead : Array (Option Value)} {oc_at_or_ahead kV_at_or_ahead dc_at_or_ahead pm_at_or_ahead cd_at_or_ahead ct_at_or_ahead : Value}
    {f_letter_of : Addr} {od_letter_of an_letter_of : Option Addr} {sl_letter_of : Array (Option Value)} {oc_letter_of kV_letter_of dc_letter_of pm_letter_of cd_letter_of ct_letter_of : Value}
    {f_chunk_size : Addr} {od_chunk_size an_chunk_size : Option Addr} {sl_chunk_size : Array (Option Value)} {oc_chunk_size kV_chunk_size dc_chunk_size pm_chunk_size cd_chunk_size ct_chunk_size : Value}
    {f_has_deed : Addr} {od_has_deed an_has_deed : Option Addr} {sl_has_deed : Array (Option Value)} {oc_has_deed kV_has_deed dc_has_deed pm_has_deed cd_has_deed ct_has_deed : Value}
    {f_choice_for : Addr} {od_choice_for an_choice_for : Option Addr} {sl_choice_for : Array (Option Value)} {oc_choice_for kV_choice_for dc_choice_for pm_choice_for cd_choice_for ct_choice_for : Value}
    {f_laid_out : Addr} {od_laid_out an_laid_out : Option Addr} {sl_laid_out : Array (Option Value)} {oc_laid_out kV_laid_out dc_laid_out pm_laid_out cd_laid_out ct_laid_out : Value}
    {f_own_keeper : Addr} {od_own_keeper an_own_keeper : Option Addr} {sl_own_keeper : Array (Option Value)} {oc_own_keeper kV_own_keeper dc_own_keeper pm_own_keeper cd_own_keeper ct_own_keeper : Value}
    {f_cut_away : Addr} {od_cut_away an_cut_away : Option Addr} {sl_cut_away : Array (Option Value)} {oc_cut_away kV_cut_away dc_cut_away pm_cut_away cd_cut_away ct_cut_away : Value}
    {f_shown_by : Addr} {od_shown_by an_shown_by : Option Addr} {sl_shown_by : Array (Option Value)} {oc_shown_by kV_shown_by dc_shown_by pm_shown_by cd_shown_by ct_shown_by : Value}
    {f_letters_of : Addr} {od_letters_of an_letters_of : Option Addr} {sl_letters_of : Array (Option Value)} {oc_letters_of kV_letters_of dc_letters_of pm_letters_of cd_letters_of ct_letters_of : Value}
    {f_first_untold : Addr} {od_first_untold an_first_untold : Option Addr} {sl_first_untold : Array (Option Value)} {oc_first_untold kV_first_untold dc_first_untold pm_first_untold cd_first_untold ct_first_untold : Value}
    {f_shown_signs : Addr} {od_shown_signs an_shown_signs : Option Addr} {sl_shown_signs : Array (Option Value)} {oc_shown_signs kV_shown_signs dc_shown_signs pm_shown_signs cd_shown_signs ct_shown_signs : Value}
    {f_is_settled : Addr} {od_is_settled an_is_settled : Option Addr} {sl_is_settled : Array (Option Value)} {oc_is_settled kV_is_settled dc_is_settled pm_is_settled cd_is_settled ct_is_settled : Value}
    {f_row_of : Addr} {od_row_of an_row_of : Option Addr} {sl_row_of : Array (Option Value)} {oc_row_of kV_row_of dc_row_of pm_row_of cd_row_of ct_row_of : Value}
    {f_text_of : Addr} {od_text_of an_text_of : Option Addr} {sl_text_of : Array (Option Value)} {oc_text_of kV_text_of dc_text_of pm_text_of cd_text_of ct_text_of : Value}
    {f_law_draws : Addr} {od_law_draws an_law_draws : Option Addr} {sl_law_draws : Array (Option Value)} {oc_law_draws kV_law_draws dc_law_draws pm_law_draws cd_law_draws ct_law_draws : Value}
    {f_law_pick : Addr} {od_law_pick an_law_pick : Option Addr} {sl_law_pick : Array (Option Value)} {oc_law_pick kV_law_pick dc_law_pick pm_law_pick cd_law_pick ct_law_pick : Value}
    {f_law_say : Addr} {od_law_say an_law_say : Option Addr} {sl_law_say : Array (Option Value)} {oc_law_say kV_law_say dc_law_say pm_law_say cd_law_say ct_law_say : Value}
    {f_law_all : Addr} {od_law_all an_law_all : Option Addr} {sl_law_all : Array (Option Value)} {oc_law_all kV_law_all dc_law_all pm_law_all cd_law_all ct_law_all : Value}
    {f_law_closed : Addr} {od_law_closed an_law_closed : Option Addr} {sl_law_closed : Array (Option Value)} {oc_law_closed kV_law_closed dc_law_closed pm_law_closed cd_law_closed ct_law_closed : Value}
    {f_law_behind : Addr} {od_law_behind an_law_behind : Option Addr} {sl_law_behind : Array (Option Value)} {oc_law_behind kV_law_behind dc_law_behind pm_law_behind cd_law_behind ct_law_behind : Value}
    {f_law_ahead : Addr} {od_law_ahead an_law_ahead : Option Addr} {sl_law_ahead : Array (Option Value)} {oc_law_ahead kV_law_ahead dc_law_ahead pm_law_ahead cd_law_ahead ct_law_ahead : Value}
    {f_law_close : Addr} {od_law_close an_law_close : Option Addr} {sl_law_close : Array (Option Value)} {oc_law_close kV_law_close dc_law_close pm_law_close cd_law_close ct_law_close : Value}
    {f_law_pair : Addr} {od_law_pair an_law_pair : Option Addr} {sl_law_pair : Array (Option Value)} {oc_law_pair kV_law_pair dc_law_pair pm_law_pair cd_law_pair ct_law_pair : Value}
    {f_law_same : Addr} {od_law_same an_law_same : Option Addr} {sl_law_same : Array (Option Value)} {oc_law_same kV_law_same dc_law_same pm_law_same cd_law_same ct_law_same : Value}
    {f_law_laid : Addr} {od_law_laid an_law_laid : Option Addr} {sl_law_laid : Array (Option Value)} {oc_law_laid kV_law_laid dc_law_laid pm_law_laid cd_law_laid ct_law_laid : Value}
    {f_law_num : Addr} {od_law_num an_law_num : Option Addr} {sl_law_num : Array (Option Value)} {oc_law_num kV_law_num dc_law_num pm_law_num cd_law_num ct_law_num : Value}
    {f_law_is_cut : Addr} {od_law_is_cut an_law_is_cut : Option Addr} {sl_law_is_cut : Array (Option Value)} {oc_law_is_cut kV_law_is_cut dc_law_is_cut pm_law_is_cut cd_law_is_cut ct_law_is_cut : Value}
    {f_law_seen : Addr} {od_law_seen an_law_seen : Option Addr} {sl_law_seen : Array (Option Value)} {oc_law_seen kV_law_seen dc_law_seen pm_law_seen cd_law_seen ct_law_seen : Value}
    {f_law_sheet : Addr} {od_law_sheet an_law_sheet : Option Addr} {sl_law_sheet : Array (Option Value)} {oc_law_sheet kV_law_sheet dc_law_sheet pm_law_sheet cd_law_sheet ct_law_sheet : Value}
    {f_law_hinge : Addr} {od_law_hinge an_law_hinge : Option Addr} {sl_law_hinge : Array (Option Value)} {oc_law_hinge kV_law_hinge dc_law_hinge pm_law_hinge cd_law_hinge ct_law_hinge : Value}
    {f_law_handed : Addr} {od_law_handed an_law_handed : Option Addr} {sl_law_handed : Array (Option Value)} {oc_law_handed kV_law_handed dc_law_handed pm_law_handed cd_law_handed ct_law_handed : Value}
    {f_law_cuts : Addr} {od_law_cuts an_law_cuts : Option Addr} {sl_law_cuts : Array (Option Value)} {oc_law_cuts kV_law_cuts dc_law_cuts pm_law_cuts cd_law_cuts ct_law_cuts : Value}
    {f_law_told : Addr} {od_law_told an_law_told : Option Addr} {sl_law_told : Array (Option Value)} {oc_law_told kV_law_told dc_law_told pm_law_told cd_law_told ct_law_told : Value}
    {f_law_settled : Addr} {od_law_settled an_law_settled : Option Addr} {sl_law_settled : Array (Option Value)} {oc_law_settled kV_law_settled dc_law_settled pm_law_settled cd_law_settled ct_law_settled : Value}
    {f_law_in_order : Addr} {od_law_in_order an_law_in_order : Option Addr} {sl_law_in_order : Array (Option Value)} {oc_law_in_order kV_law_in_order dc_law_in_order pm_law_in_order cd_law_in_order ct_law_in_order : Value}
    {f_law_neighbours : Addr} {od_law_neighbours an_law_neighbours : Option Addr} {sl_law_neighbours : Array (Option Value)} {oc_law_neighbours kV_law_neighbours dc_law_neighbours pm_law_neighbours cd_law_neighbours ct_law_neighbours : Value}
    {f_law_heard : Addr} {od_law_heard an_law_heard : Option Addr} {sl_law_heard : Array (Option Value)} {oc_law_heard kV_law_heard dc_law_heard pm_law_heard cd_law_heard ct_law_heard : Value}
    {f_law_due : Addr} {od_law_due an_law_due : Option Addr} {sl_law_due : Array (Option Value)} {oc_law_due kV_law_due dc_law_due pm_law_due cd_law_due ct_law_due : Value}
    {f_law_holds : Addr} {od_law_holds an_law_holds : Option Addr} {sl_law_holds : Array (Option Value)} {oc_law_holds kV_law_holds dc_law_holds pm_law_holds cd_law_holds ct_law_holds : Value}
    {f_law_keepers : Addr} {od_law_keepers an_law_keepers : Option Addr} {sl_law_keepers : Array (Option Value)} {oc_law_keepers kV_law_keepers dc_law_keepers pm_law_keepers cd_law_keepers ct_law_keepers : Value}
    {f_law_choices : Addr} {od_law_choices an_law_choices : Option Addr} {sl_law_choices : Array (Option Value)} {oc_law_choices kV_law_choices dc_law_choices pm_law_choices cd_law_choices ct_law_choices : Value}
    {f_law_stands : Addr} {od_law_stands an_law_stands : Option Addr} {sl_law_stands : Array (Option Value)} {oc_law_stands kV_law_stands dc_law_stands pm_law_stands cd_law_stands ct_law_stands : Value}
    {f_law_chain_holds : Addr} {od_law_chain_holds an_law_chain_holds : Option Addr} {sl_law_chain_holds : Array (Option Value)} {oc_law_chain_holds kV_law_chain_holds dc_law_chain_holds pm_law_chain_holds cd_law_chain_holds ct_law_chain_holds : Value}
    {f_law : Addr} {od_law an_law : Option Addr} {sl_law : Array (Option Value)} {oc_law kV_law dc_law pm_law cd_law ct_law : Value}
    {C_Unsettled fi_Unsettled N_Unsettled : Addr} {nm_Unsettled qn_Unsettled : Str} {bs_Unsettled su_Unsettled : List Value} {sn_Unsettled : List Str} {ab_Unsettled : Bool} {col_Unsettled : Option Bool} {dd_Unsettled : Option Addr} {m0_Unsettled m1_Unsettled m2_Unsettled m3_Unsettled m5_Unsettled : Option Value}
    {od_Unsettled an_Unsettled : Option Addr} {sl_Unsettled : Array (Option Value)} {oc_Unsettled kV_Unsettled dc_Unsettled pm_Unsettled cd_Unsettled ct_Unsettled : Value}
    {B_Unsettled_DeskError : Addr}
    {C_DeskError : Addr}
    
    {h_HEAD : Addr} {hd_HEAD : Option Addr} {hn_HEAD : Nat} {hs_HEAD : Array (Option Value)}
    {ht_HEAD_0 : Tok}
    {ht_HEAD_1 : Tok}
    
    {h_END : Addr} {hd_END : Option Addr} {hn_END : Nat} {hs_END : Array (Option Value)}
    {ht_END_0 : Tok}
    {ht_END_1 : Tok}
    (a_hops_of : PySem.W.nsIn K mainGlobals "hops_of" = some (some (.ref f_hops_of)))
    (l_hops_of : K.lookup f_hops_of = some ⟨oc_hops_of, od_hops_of, .func (PySem.W.fnOf "hops_of" "hops_of" (defArgs s_hops_of) (defBody s_hops_of) (defScope s_hops_of) .none kV_hops_of dc_hops_of pm_hops_of an_hops_of cd_hops_of ct_hops_of), sl_hops_of⟩)
    (c_hops_of : PySem.W.codeIn K cd_hops_of "hops_of" = true)
    (k_hops_of : PySem.W.keepIn K (.ref f_hops_of) = true)
    (a_told_ahead : PySem.W.nsIn K mainGlobals "told_ahead" = some (some (.ref f_told_ahead)))
    (l_told_ahead : K.lookup f_told_ahead = some ⟨oc_told_ahead, od_told_ahead, .func (PySem.W.fnOf "told_ahead" "told_ahead" (defArgs s_told_ahead) (defBody s_told_ahead) (defScope s_told_ahead) .none kV_told_ahead dc_told_ahead pm_told_ahead an_told_ahead cd_told_ahead ct_told_ahead), sl_told_ahead⟩)
    (c_told_ahead : PySem.W.codeIn K cd_told_ahead "told_ahead" = true)
    (k_told_ahead : PySem.W.keepIn K (.ref f_told_ahead) = true)
    (a_at_or_ahead : PySem.W.nsIn K mainGlobals "at_or_ahead" = some (some (.ref f_at_or_ahead)))
    (l_at_or_ahead : K.lookup f_at_or_ahead = some ⟨oc_at_or_ahead, od_at_or_ahead, .func (PySem.W.fnOf "at_or_ahead" "at_or_ahead" (defArgs s_at_or_ahead) (defBody s_at_or_ahead) (defScope s_at_or_ahead) .none kV_at_or_ahead dc_at_or_ahead pm_at_or_ahead an_at_or_ahead cd_at_or_ahead ct_at_or_ahead), sl_at_or_ahead⟩)
    (c_at_or_ahead : PySem.W.codeIn K cd_at_or_ahead "at_or_ahead" = true)
    (k_at_or_ahead : PySem.W.keepIn K (.ref f_at_or_ahead) = true)
    (a_letter_of : PySem.W.nsIn K mainGlobals "letter_of" = some (some (.ref f_letter_of)))
    (l_letter_of : K.lookup f_letter_of = some ⟨oc_letter_of, od_letter_of, .func (PySem.W.fnOf "letter_of" "letter_of" (defArgs s_letter_of) (defBody s_letter_of) (defScope s_letter_of) .none kV_letter_of dc_letter_of pm_letter_of an_letter_of cd_letter_of ct_letter_of), sl_letter_of⟩)
    (c_letter_of : PySem.W.codeIn K cd_letter_of "letter_of" = true)
    (k_letter_of : PySem.W.keepIn K (.ref f_letter_of) = true)
    (a_chunk_size : PySem.W.nsIn K mainGlobals "chunk_size" = some (some (.ref f_chunk_size)))
    (l_chunk_size : K.lookup f_chunk_size = some ⟨oc_chunk_size, od_chunk_size, .func (PySem.W.fnOf "chunk_size" "chunk_size" (defArgs s_chunk_size) (defBody s_chunk_size) (defScope s_chunk_size) .none kV_chunk_size dc_chunk_size pm_chunk_size an_chunk_size cd_chunk_size ct_chunk_size), sl_chunk_size⟩)
    (c_chunk_size : PySem.W.codeIn K cd_chunk_size "chunk_size" = true)
    (k_chunk_size : PySem.W.keepIn K (.ref f_chunk_size) = true)
    (a_has_deed : PySem.W.nsIn K mainGlobals "has_deed" = some (some (.ref f_has_deed)))
    (l_has_deed : K.lookup f_has_deed = some ⟨oc_has_deed, od_has_deed, .func (PySem.W.fnOf "has_deed" "has_deed" (defArgs s_has_deed) (defBody s_has_deed) (defScope s_has_deed) .none kV_has_deed dc_has_deed pm_has_deed an_has_deed cd_has_deed ct_has_deed), sl_has_deed⟩)
    (c_has_deed : PySem.W.codeIn K cd_has_deed "has_deed" = true)
    (k_has_deed : PySem.W.keepIn K (.ref f_has_deed) = true)
    (a_choice_for : PySem.W.nsIn K mainGlobals "choice_for" = some (some (.ref f_choice_for)))
    (l_choice_for : K.lookup f_choice_for = some ⟨oc_choice_for, od_choice_for, .func (PySem.W.fnOf "choice_for" "choice_for" (defArgs s_choice_for) (defBody s_choice_for) (defScope s_choice_for) .none kV_choice_for dc_choice_for pm_choice_for an_choice_for cd_choice_for ct_choice_for), sl_choice_for⟩)
    (c_choice_for : PySem.W.codeIn K cd_choice_for "choice_for" = true)
    (k_choice_for : PySem.W.keepIn K (.ref f_choice_for) = true)
    (a_laid_out : PySem.W.nsIn K mainGlobals "laid_out" = some (some (.ref f_laid_out)))
    (l_laid_out : K.lookup f_laid_out = some ⟨oc_laid_out, od_laid_out, .func (PySem.W.fnOf "laid_out" "laid_out" (defArgs s_laid_out) (defBody s_laid_out) (defScope s_laid_out) .none kV_laid_out dc_laid_out pm_laid_out an_laid_out cd_laid_out ct_laid_out), sl_laid_out⟩)
    (c_laid_out : PySem.W.codeIn K cd_laid_out "laid_out" = true)
    (k_laid_out : PySem.W.keepIn K (.ref f_laid_out) = true)
    (a_own_keeper : PySem.W.nsIn K mainGlobals "own_keeper" = some (some (.ref f_own_keeper)))
    (l_own_keeper : K.lookup f_own_keeper = some ⟨oc_own_keeper, od_own_keeper, .func (PySem.W.fnOf "own_keeper" "own_keeper" (defArgs s_own_keeper) (defBody s_own_keeper) (defScope s_own_keeper) .none kV_own_keeper dc_own_keeper pm_own_keeper an_own_keeper cd_own_keeper ct_own_keeper), sl_own_keeper⟩)
    (c_own_keeper : PySem.W.codeIn K cd_own_keeper "own_keeper" = true)
    (k_own_keeper : PySem.W.keepIn K (.ref f_own_keeper) = true)
    (a_cut_away : PySem.W.nsIn K mainGlobals "cut_away" = some (some (.ref f_cut_away)))
    (l_cut_away : K.lookup f_cut_away = some ⟨oc_cut_away, od_cut_away, .func (PySem.W.fnOf "cut_away" "cut_away" (defArgs s_cut_away) (defBody s_cut_away) (defScope s_cut_away) .none kV_cut_away dc_cut_away pm_cut_away an_cut_away cd_cut_away ct_cut_away), sl_cut_away⟩)
    (c_cut_away : PySem.W.codeIn K cd_cut_away "cut_away" = true)
    (k_cut_away : PySem.W.keepIn K (.ref f_cut_away) = true)
    (a_shown_by : PySem.W.nsIn K mainGlobals "shown_by" = some (some (.ref f_shown_by)))
    (l_shown_by : K.lookup f_shown_by = some ⟨oc_shown_by, od_shown_by, .func (PySem.W.fnOf "shown_by" "shown_by" (defArgs s_shown_by) (defBody s_shown_by) (defScope s_shown_by) .none kV_shown_by dc_shown_by pm_shown_by an_shown_by cd_shown_by ct_shown_by), sl_shown_by⟩)
    (c_shown_by : PySem.W.codeIn K cd_shown_by "shown_by" = true)
    (k_shown_by : PySem.W.keepIn K (.ref f_shown_by) = true)
    (a_letters_of : PySem.W.nsIn K mainGlobals "letters_of" = some (some (.ref f_letters_of)))
    (l_letters_of : K.lookup f_letters_of = some ⟨oc_letters_of, od_letters_of, .func (PySem.W.fnOf "letters_of" "letters_of" (defArgs s_letters_of) (defBody s_letters_of) (defScope s_letters_of) .none kV_letters_of dc_letters_of pm_letters_of an_letters_of cd_letters_of ct_letters_of), sl_letters_of⟩)
    (c_letters_of : PySem.W.codeIn K cd_letters_of "letters_of" = true)
    (k_letters_of : PySem.W.keepIn K (.ref f_letters_of) = true)
    (a_first_untold : PySem.W.nsIn K mainGlobals "first_untold" = some (some (.ref f_first_untold)))
    (l_first_untold : K.lookup f_first_untold = some ⟨oc_first_untold, od_first_untold, .func (PySem.W.fnOf "first_untold" "first_untold" (defArgs s_first_untold) (defBody s_first_untold) (defScope s_first_untold) .none kV_first_untold dc_first_untold pm_first_untold an_first_untold cd_first_untold ct_first_untold), sl_first_untold⟩)
    (c_first_untold : PySem.W.codeIn K cd_first_untold "first_untold" = true)
    (k_first_untold : PySem.W.keepIn K (.ref f_first_untold) = true)
    (a_shown_signs : PySem.W.nsIn K mainGlobals "shown_signs" = some (some (.ref f_shown_signs)))
    (l_shown_signs : K.lookup f_shown_signs = some ⟨oc_shown_signs, od_shown_signs, .func (PySem.W.fnOf "shown_signs" "shown_signs" (defArgs s_shown_signs) (defBody s_shown_signs) (defScope s_shown_signs) .none kV_shown_signs dc_shown_signs pm_shown_signs an_shown_signs cd_shown_signs ct_shown_signs), sl_shown_signs⟩)
    (c_shown_signs : PySem.W.codeIn K cd_shown_signs "shown_signs" = true)
    (k_shown_signs : PySem.W.keepIn K (.ref f_shown_signs) = true)
    (a_is_settled : PySem.W.nsIn K mainGlobals "is_settled" = some (some (.ref f_is_settled)))
    (l_is_settled : K.lookup f_is_settled = some ⟨oc_is_settled, od_is_settled, .func (PySem.W.fnOf "is_settled" "is_settled" (defArgs s_is_settled) (defBody s_is_settled) (defScope s_is_settled) .none kV_is_settled dc_is_settled pm_is_settled an_is_settled cd_is_settled ct_is_settled), sl_is_settled⟩)
    (c_is_settled : PySem.W.codeIn K cd_is_settled "is_settled" = true)
    (k_is_settled : PySem.W.keepIn K (.ref f_is_settled) = true)
    (a_row_of : PySem.W.nsIn K mainGlobals "row_of" = some (some (.ref f_row_of)))
    (l_row_of : K.lookup f_row_of = some ⟨oc_row_of, od_row_of, .func (PySem.W.fnOf "row_of" "row_of" (defArgs s_row_of) (defBody s_row_of) (defScope s_row_of) .none kV_row_of dc_row_of pm_row_of an_row_of cd_row_of ct_row_of), sl_row_of⟩)
    (c_row_of : PySem.W.codeIn K cd_row_of "row_of" = true)
    (k_row_of : PySem.W.keepIn K (.ref f_row_of) = true)
    (a_text_of : PySem.W.nsIn K mainGlobals "text_of" = some (some (.ref f_text_of)))
    (l_text_of : K.lookup f_text_of = some ⟨oc_text_of, od_text_of, .func (PySem.W.fnOf "text_of" "text_of" (defArgs s_text_of) (defBody s_text_of) (defScope s_text_of) .none kV_text_of dc_text_of pm_text_of an_text_of cd_text_of ct_text_of), sl_text_of⟩)
    (c_text_of : PySem.W.codeIn K cd_text_of "text_of" = true)
    (k_text_of : PySem.W.keepIn K (.ref f_text_of) = true)
    (a_law_draws : PySem.W.nsIn K mainGlobals "_law_draws" = some (some (.ref f_law_draws)))
    (l_law_draws : K.lookup f_law_draws = some ⟨oc_law_draws, od_law_draws, .func (PySem.W.fnOf "_law_draws" "_law_draws" (defArgs s_law_draws) (defBody s_law_draws) (defScope s_law_draws) .none kV_law_draws dc_law_draws pm_law_draws an_law_draws cd_law_draws ct_law_draws), sl_law_draws⟩)
    (c_law_draws : PySem.W.codeIn K cd_law_draws "_law_draws" = true)
    (k_law_draws : PySem.W.keepIn K (.ref f_law_draws) = true)
    (a_law_pick : PySem.W.nsIn K mainGlobals "_law_pick" = some (some (.ref f_law_pick)))
    (l_law_pick : K.lookup f_law_pick = some ⟨oc_law_pick, od_law_pick, .func (PySem.W.fnOf "_law_pick" "_law_pick" (defArgs s_law_pick) (defBody s_law_pick) (defScope s_law_pick) .none kV_law_pick dc_law_pick pm_law_pick an_law_pick cd_law_pick ct_law_pick), sl_law_pick⟩)
    (c_law_pick : PySem.W.codeIn K cd_law_pick "_law_pick" = true)
    (k_law_pick : PySem.W.keepIn K (.ref f_law_pick) = true)
    (a_law_say : PySem.W.nsIn K mainGlobals "_law_say" = some (some (.ref f_law_say)))
    (l_law_say : K.lookup f_law_say = some ⟨oc_law_say, od_law_say, .func (PySem.W.fnOf "_law_say" "_law_say" (defArgs s_law_say) (defBody s_law_say) (defScope s_law_say) .none kV_law_say dc_law_say pm_law_say an_law_say cd_law_say ct_law_say), sl_law_say⟩)
    (c_law_say : PySem.W.codeIn K cd_law_say "_law_say" = true)
    (k_law_say : PySem.W.keepIn K (.ref f_law_say) = true)
    (a_law_all : PySem.W.nsIn K mainGlobals "_law_all" = some (some (.ref f_law_all)))
    (l_law_all : K.lookup f_law_all = some ⟨oc_law_all, od_law_all, .func (PySem.W.fnOf "_law_all" "_law_all" (defArgs s_law_all) (defBody s_law_all) (defScope s_law_all) .none kV_law_all dc_law_all pm_law_all an_law_all cd_law_all ct_law_all), sl_law_all⟩)
    (c_law_all : PySem.W.codeIn K cd_law_all "_law_all" = true)
    (k_law_all : PySem.W.keepIn K (.ref f_law_all) = true)
    (a_law_closed : PySem.W.nsIn K mainGlobals "_law_closed" = some (some (.ref f_law_closed)))
    (l_law_closed : K.lookup f_law_closed = some ⟨oc_law_closed, od_law_closed, .func (PySem.W.fnOf "_law_closed" "_law_closed" (defArgs s_law_closed) (defBody s_law_closed) (defScope s_law_closed) .none kV_law_closed dc_law_closed pm_law_closed an_law_closed cd_law_closed ct_law_closed), sl_law_closed⟩)
    (c_law_closed : PySem.W.codeIn K cd_law_closed "_law_closed" = true)
    (k_law_closed : PySem.W.keepIn K (.ref f_law_closed) = true)
    (a_law_behind : PySem.W.nsIn K mainGlobals "_law_behind" = some (some (.ref f_law_behind)))
    (l_law_behind : K.lookup f_law_behind = some ⟨oc_law_behind, od_law_behind, .func (PySem.W.fnOf "_law_behind" "_law_behind" (defArgs s_law_behind) (defBody s_law_behind) (defScope s_law_behind) .none kV_law_behind dc_law_behind pm_law_behind an_law_behind cd_law_behind ct_law_behind), sl_law_behind⟩)
    (c_law_behind : PySem.W.codeIn K cd_law_behind "_law_behind" = true)
    (k_law_behind : PySem.W.keepIn K (.ref f_law_behind) = true)
    (a_law_ahead : PySem.W.nsIn K mainGlobals "_law_ahead" = some (some (.ref f_law_ahead)))
    (l_law_ahead : K.lookup f_law_ahead = some ⟨oc_law_ahead, od_law_ahead, .func (PySem.W.fnOf "_law_ahead" "_law_ahead" (defArgs s_law_ahead) (defBody s_law_ahead) (defScope s_law_ahead) .none kV_law_ahead dc_law_ahead pm_law_ahead an_law_ahead cd_law_ahead ct_law_ahead), sl_law_ahead⟩)
    (c_law_ahead : PySem.W.codeIn K cd_law_ahead "_law_ahead" = true)
    (k_law_ahead : PySem.W.keepIn K (.ref f_law_ahead) = true)
    (a_law_close : PySem.W.nsIn K mainGlobals "_law_close" = some (some (.ref f_law_close)))
    (l_law_close : K.lookup f_law_close = some ⟨oc_law_close, od_law_close, .func (PySem.W.fnOf "_law_close" "_law_close" (defArgs s_law_close) (defBody s_law_close) (defScope s_law_close) .none kV_law_close dc_law_close pm_law_close an_law_close cd_law_close ct_law_close), sl_law_close⟩)
    (c_law_close : PySem.W.codeIn K cd_law_close "_law_close" = true)
    (k_law_close : PySem.W.keepIn K (.ref f_law_close) = true)
    (a_law_pair : PySem.W.nsIn K mainGlobals "_law_pair" = some (some (.ref f_law_pair)))
    (l_law_pair : K.lookup f_law_pair = some ⟨oc_law_pair, od_law_pair, .func (PySem.W.fnOf "_law_pair" "_law_pair" (defArgs s_law_pair) (defBody s_law_pair) (defScope s_law_pair) .none kV_law_pair dc_law_pair pm_law_pair an_law_pair cd_law_pair ct_law_pair), sl_law_pair⟩)
    (c_law_pair : PySem.W.codeIn K cd_law_pair "_law_pair" = true)
    (k_law_pair : PySem.W.keepIn K (.ref f_law_pair) = true)
    (a_law_same : PySem.W.nsIn K mainGlobals "_law_same" = some (some (.ref f_law_same)))
    (l_law_same : K.lookup f_law_same = some ⟨oc_law_same, od_law_same, .func (PySem.W.fnOf "_law_same" "_law_same" (defArgs s_law_same) (defBody s_law_same) (defScope s_law_same) .none kV_law_same dc_law_same pm_law_same an_law_same cd_law_same ct_law_same), sl_law_same⟩)
    (c_law_same : PySem.W.codeIn K cd_law_same "_law_same" = true)
    (k_law_same : PySem.W.keepIn K (.ref f_law_same) = true)
    (a_law_laid : PySem.W.nsIn K mainGlobals "_law_laid" = some (some (.ref f_law_laid)))
    (l_law_laid : K.lookup f_law_laid = some ⟨oc_law_laid, od_law_laid, .func (PySem.W.fnOf "_law_laid" "_law_laid" (defArgs s_law_laid) (defBody s_law_laid) (defScope s_law_laid) .none kV_law_laid dc_law_laid pm_law_laid an_law_laid cd_law_laid ct_law_laid), sl_law_laid⟩)
    (c_law_laid : PySem.W.codeIn K cd_law_laid "_law_laid" = true)
    (k_law_laid : PySem.W.keepIn K (.ref f_law_laid) = true)
    (a_law_num : PySem.W.nsIn K mainGlobals "_law_num" = some (some (.ref f_law_num)))
    (l_law_num : K.lookup f_law_num = some ⟨oc_law_num, od_law_num, .func (PySem.W.fnOf "_law_num" "_law_num" (defArgs s_law_num) (defBody s_law_num) (defScope s_law_num) .none kV_law_num dc_law_num pm_law_num an_law_num cd_law_num ct_law_num), sl_law_num⟩)
    (c_law_num : PySem.W.codeIn K cd_law_num "_law_num" = true)
    (k_law_num : PySem.W.keepIn K (.ref f_law_num) = true)
    (a_law_is_cut : PySem.W.nsIn K mainGlobals "_law_is_cut" = some (some (.ref f_law_is_cut)))
    (l_law_is_cut : K.lookup f_law_is_cut = some ⟨oc_law_is_cut, od_law_is_cut, .func (PySem.W.fnOf "_law_is_cut" "_law_is_cut" (defArgs s_law_is_cut) (defBody s_law_is_cut) (defScope s_law_is_cut) .none kV_law_is_cut dc_law_is_cut pm_law_is_cut an_law_is_cut cd_law_is_cut ct_law_is_cut), sl_law_is_cut⟩)
    (c_law_is_cut : PySem.W.codeIn K cd_law_is_cut "_law_is_cut" = true)
    (k_law_is_cut : PySem.W.keepIn K (.ref f_law_is_cut) = true)
    (a_law_seen : PySem.W.nsIn K mainGlobals "_law_seen" = some (some (.ref f_law_seen)))
    (l_law_seen : K.lookup f_law_seen = some ⟨oc_law_seen, od_law_seen, .func (PySem.W.fnOf "_law_seen" "_law_seen" (defArgs s_law_seen) (defBody s_law_seen) (defScope s_law_seen) .none kV_law_seen dc_law_seen pm_law_seen an_law_seen cd_law_seen ct_law_seen), sl_law_seen⟩)
    (c_law_seen : PySem.W.codeIn K cd_law_seen "_law_seen" = true)
    (k_law_seen : PySem.W.keepIn K (.ref f_law_seen) = true)
    (a_law_sheet : PySem.W.nsIn K mainGlobals "_law_sheet" = some (some (.ref f_law_sheet)))
    (l_law_sheet : K.lookup f_law_sheet = some ⟨oc_law_sheet, od_law_sheet, .func (PySem.W.fnOf "_law_sheet" "_law_sheet" (defArgs s_law_sheet) (defBody s_law_sheet) (defScope s_law_sheet) .none kV_law_sheet dc_law_sheet pm_law_sheet an_law_sheet cd_law_sheet ct_law_sheet), sl_law_sheet⟩)
    (c_law_sheet : PySem.W.codeIn K cd_law_sheet "_law_sheet" = true)
    (k_law_sheet : PySem.W.keepIn K (.ref f_law_sheet) = true)
    (a_law_hinge : PySem.W.nsIn K mainGlobals "_law_hinge" = some (some (.ref f_law_hinge)))
    (l_law_hinge : K.lookup f_law_hinge = some ⟨oc_law_hinge, od_law_hinge, .func (PySem.W.fnOf "_law_hinge" "_law_hinge" (defArgs s_law_hinge) (defBody s_law_hinge) (defScope s_law_hinge) .none kV_law_hinge dc_law_hinge pm_law_hinge an_law_hinge cd_law_hinge ct_law_hinge), sl_law_hinge⟩)
    (c_law_hinge : PySem.W.codeIn K cd_law_hinge "_law_hinge" = true)
    (k_law_hinge : PySem.W.keepIn K (.ref f_law_hinge) = true)
    (a_law_handed : PySem.W.nsIn K mainGlobals "_law_handed" = some (some (.ref f_law_handed)))
    (l_law_handed : K.lookup f_law_handed = some ⟨oc_law_handed, od_law_handed, .func (PySem.W.fnOf "_law_handed" "_law_handed" (defArgs s_law_handed) (defBody s_law_handed) (defScope s_law_handed) .none kV_law_handed dc_law_handed pm_law_handed an_law_handed cd_law_handed ct_law_handed), sl_law_handed⟩)
    (c_law_handed : PySem.W.codeIn K cd_law_handed "_law_handed" = true)
    (k_law_handed : PySem.W.keepIn K (.ref f_law_handed) = true)
    (a_law_cuts : PySem.W.nsIn K mainGlobals "_law_cuts" = some (some (.ref f_law_cuts)))
    (l_law_cuts : K.lookup f_law_cuts = some ⟨oc_law_cuts, od_law_cuts, .func (PySem.W.fnOf "_law_cuts" "_law_cuts" (defArgs s_law_cuts) (defBody s_law_cuts) (defScope s_law_cuts) .none kV_law_cuts dc_law_cuts pm_law_cuts an_law_cuts cd_law_cuts ct_law_cuts), sl_law_cuts⟩)
    (c_law_cuts : PySem.W.codeIn K cd_law_cuts "_law_cuts" = true)
    (k_law_cuts : PySem.W.keepIn K (.ref f_law_cuts) = true)
    (a_law_told : PySem.W.nsIn K mainGlobals "_law_told" = some (some (.ref f_law_told)))
    (l_law_told : K.lookup f_law_told = some ⟨oc_law_told, od_law_told, .func (PySem.W.fnOf "_law_told" "_law_told" (defArgs s_law_told) (defBody s_law_told) (defScope s_law_told) .none kV_law_told dc_law_told pm_law_told an_law_told cd_law_told ct_law_told), sl_law_told⟩)
    (c_law_told : PySem.W.codeIn K cd_law_told "_law_told" = true)
    (k_law_told : PySem.W.keepIn K (.ref f_law_told) = true)
    (a_law_settled : PySem.W.nsIn K mainGlobals "_law_settled" = some (some (.ref f_law_settled)))
    (l_law_settled : K.lookup f_law_settled = some ⟨oc_law_settled, od_law_settled, .func (PySem.W.fnOf "_law_settled" "_law_settled" (defArgs s_law_settled) (defBody s_law_settled) (defScope s_law_settled) .none kV_law_settled dc_law_settled pm_law_settled an_law_settled cd_law_settled ct_law_settled), sl_law_settled⟩)
    (c_law_settled : PySem.W.codeIn K cd_law_settled "_law_settled" = true)
    (k_law_settled : PySem.W.keepIn K (.ref f_law_settled) = true)
    (a_law_in_order : PySem.W.nsIn K mainGlobals "_law_in_order" = some (some (.ref f_law_in_order)))
    (l_law_in_order : K.lookup f_law_in_order = some ⟨oc_law_in_order, od_law_in_order, .func (PySem.W.fnOf "_law_in_order" "_law_in_order" (defArgs s_law_in_order) (defBody s_law_in_order) (defScope s_law_in_order) .none kV_law_in_order dc_law_in_order pm_law_in_order an_law_in_order cd_law_in_order ct_law_in_order), sl_law_in_order⟩)
    (c_law_in_order : PySem.W.codeIn K cd_law_in_order "_law_in_order" = true)
    (k_law_in_order : PySem.W.keepIn K (.ref f_law_in_order) = true)
    (a_law_neighbours : PySem.W.nsIn K mainGlobals "_law_neighbours" = some (some (.ref f_law_neighbours)))
    (l_law_neighbours : K.lookup f_law_neighbours = some ⟨oc_law_neighbours, od_law_neighbours, .func (PySem.W.fnOf "_law_neighbours" "_law_neighbours" (defArgs s_law_neighbours) (defBody s_law_neighbours) (defScope s_law_neighbours) .none kV_law_neighbours dc_law_neighbours pm_law_neighbours an_law_neighbours cd_law_neighbours ct_law_neighbours), sl_law_neighbours⟩)
    (c_law_neighbours : PySem.W.codeIn K cd_law_neighbours "_law_neighbours" = true)
    (k_law_neighbours : PySem.W.keepIn K (.ref f_law_neighbours) = true)
    (a_law_heard : PySem.W.nsIn K mainGlobals "_law_heard" = some (some (.ref f_law_heard)))
    (l_law_heard : K.lookup f_law_heard = some ⟨oc_law_heard, od_law_heard, .func (PySem.W.fnOf "_law_heard" "_law_heard" (defArgs s_law_heard) (defBody s_law_heard) (defScope s_law_heard) .none kV_law_heard dc_law_heard pm_law_heard an_law_heard cd_law_heard ct_law_heard), sl_law_heard⟩)
    (c_law_heard : PySem.W.codeIn K cd_law_heard "_law_heard" = true)
    (k_law_heard : PySem.W.keepIn K (.ref f_law_heard) = true)
    (a_law_due : PySem.W.nsIn K mainGlobals "_law_due" = some (some (.ref f_law_due)))
    (l_law_due : K.lookup f_law_due = some ⟨oc_law_due, od_law_due, .func (PySem.W.fnOf "_law_due" "_law_due" (defArgs s_law_due) (defBody s_law_due) (defScope s_law_due) .none kV_law_due dc_law_due pm_law_due an_law_due cd_law_due ct_law_due), sl_law_due⟩)
    (c_law_due : PySem.W.codeIn K cd_law_due "_law_due" = true)
    (k_law_due : PySem.W.keepIn K (.ref f_law_due) = true)
    (a_law_holds : PySem.W.nsIn K mainGlobals "_law_holds" = some (some (.ref f_law_holds)))
    (l_law_holds : K.lookup f_law_holds = some ⟨oc_law_holds, od_law_holds, .func (PySem.W.fnOf "_law_holds" "_law_holds" (defArgs s_law_holds) (defBody s_law_holds) (defScope s_law_holds) .none kV_law_holds dc_law_holds pm_law_holds an_law_holds cd_law_holds ct_law_holds), sl_law_holds⟩)
    (c_law_holds : PySem.W.codeIn K cd_law_holds "_law_holds" = true)
    (k_law_holds : PySem.W.keepIn K (.ref f_law_holds) = true)
    (a_law_keepers : PySem.W.nsIn K mainGlobals "_law_keepers" = some (some (.ref f_law_keepers)))
    (l_law_keepers : K.lookup f_law_keepers = some ⟨oc_law_keepers, od_law_keepers, .func (PySem.W.fnOf "_law_keepers" "_law_keepers" (defArgs s_law_keepers) (defBody s_law_keepers) (defScope s_law_keepers) .none kV_law_keepers dc_law_keepers pm_law_keepers an_law_keepers cd_law_keepers ct_law_keepers), sl_law_keepers⟩)
    (c_law_keepers : PySem.W.codeIn K cd_law_keepers "_law_keepers" = true)
    (k_law_keepers : PySem.W.keepIn K (.ref f_law_keepers) = true)
    (a_law_choices : PySem.W.nsIn K mainGlobals "_law_choices" = some (some (.ref f_law_choices)))
    (l_law_choices : K.lookup f_law_choices = some ⟨oc_law_choices, od_law_choices, .func (PySem.W.fnOf "_law_choices" "_law_choices" (defArgs s_law_choices) (defBody s_law_choices) (defScope s_law_choices) .none kV_law_choices dc_law_choices pm_law_choices an_law_choices cd_law_choices ct_law_choices), sl_law_choices⟩)
    (c_law_choices : PySem.W.codeIn K cd_law_choices "_law_choices" = true)
    (k_law_choices : PySem.W.keepIn K (.ref f_law_choices) = true)
    (a_law_stands : PySem.W.nsIn K mainGlobals "_law_stands" = some (some (.ref f_law_stands)))
    (l_law_stands : K.lookup f_law_stands = some ⟨oc_law_stands, od_law_stands, .func (PySem.W.fnOf "_law_stands" "_law_stands" (defArgs s_law_stands) (defBody s_law_stands) (defScope s_law_stands) .none kV_law_stands dc_law_stands pm_law_stands an_law_stands cd_law_stands ct_law_stands), sl_law_stands⟩)
    (c_law_stands : PySem.W.codeIn K cd_law_stands "_law_stands" = true)
    (k_law_stands : PySem.W.keepIn K (.ref f_law_stands) = true)
    (a_law_chain_holds : PySem.W.nsIn K mainGlobals "_law_chain_holds" = some (some (.ref f_law_chain_holds)))
    (l_law_chain_holds : K.lookup f_law_chain_holds = some ⟨oc_law_chain_holds, od_law_chain_holds, .func (PySem.W.fnOf "_law_chain_holds" "_law_chain_holds" (defArgs s_law_chain_holds) (defBody s_law_chain_holds) (defScope s_law_chain_holds) .none kV_law_chain_holds dc_law_chain_holds pm_law_chain_holds an_law_chain_holds cd_law_chain_holds ct_law_chain_holds), sl_law_chain_holds⟩)
    (c_law_chain_holds : PySem.W.codeIn K cd_law_chain_holds "_law_chain_holds" = true)
    (k_law_chain_holds : PySem.W.keepIn K (.ref f_law_chain_holds) = true)
    (a_law : PySem.W.nsIn K mainGlobals "law" = some (some (.ref f_law)))
    (l_law : K.lookup f_law = some ⟨oc_law, od_law, .func (PySem.W.fnOf "law" "law" (defArgs s_law) (defBody s_law) (defScope s_law) .none kV_law dc_law pm_law an_law cd_law ct_law), sl_law⟩)
    (c_law : PySem.W.codeIn K cd_law "law" = true)
    (k_law : PySem.W.keepIn K (.ref f_law) = true)
    (aC_Unsettled : PySem.W.nsIn K mainGlobals "Unsettled" = some (some (.ref C_Unsettled)))
    (xL_Unsettled : K.lookup C_Unsettled = some (excClassObj nm_Unsettled qn_Unsettled C_Unsettled N_Unsettled bs_Unsettled [.ref B_Unsettled_DeskError, .type "ValueError", .type "Exception", .type "BaseException", .type "object"] true sn_Unsettled su_Unsettled ab_Unsettled col_Unsettled dd_Unsettled m0_Unsettled m1_Unsettled m2_Unsettled m3_Unsettled m5_Unsettled "ValueError.__new__"))
    (sa_Unsettled : PySem.W.findIn K (.ref C_Unsettled) "__setattr__" = some (some (.builtin "object.__setattr__")))
    (ga_Unsettled : PySem.W.findIn K (.ref C_Unsettled) "__getattribute__" = some (some (.builtin "BaseException.__getattribute__")))
    (gg_Unsettled : PySem.W.findIn K (.ref C_Unsettled) "__getattr__" = some none)
    (na_Unsettled_one : PySem.W.findIn K (.ref C_Unsettled) "one" = some none)
    (na_Unsettled_other : PySem.W.findIn K (.ref C_Unsettled) "other" = some none)
    (iC_Unsettled : PySem.W.findIn K (.ref C_Unsettled) "__init__" = some (some (.ref fi_Unsettled)))
    (ti_Unsettled : PySem.W.typeIn K (.ref fi_Unsettled) = some (.type "function"))
    (li_Unsettled : K.lookup fi_Unsettled = some ⟨oc_Unsettled, od_Unsettled, .func (PySem.W.fnOf "__init__" "Unsettled.__init__" (defArgs s_init_Unsettled) (defBody s_init_Unsettled) (defScope s_init_Unsettled) .none kV_Unsettled dc_Unsettled pm_Unsettled an_Unsettled cd_Unsettled ct_Unsettled), sl_Unsettled⟩)
    (ci_Unsettled : PySem.W.codeIn K cd_Unsettled "Unsettled.__init__" = true)
    (ki_Unsettled : PySem.W.keepIn K (.ref fi_Unsettled) = true)
    (kC_Unsettled : PySem.W.keepIn K (.ref C_Unsettled) = true)
    (eC_Unsettled : PySem.W.subIn K (.ref C_Unsettled) (.type "BaseException") = some true)
    (tC_Unsettled : PySem.W.typeIn K (.ref C_Unsettled) = some (.type "type"))
    (hC_Unsettled : PySem.W.hasDictIn K C_Unsettled = true)
    (yC_Unsettled : PySem.W.isClsIn K C_Unsettled = true)
    (sC_Unsettled : PySem.W.subIn K (.ref C_Unsettled) (.ref C_Unsettled) = some true)
    (aC_DeskError : PySem.W.nsIn K mainGlobals "DeskError" = some (some (.ref C_DeskError)))
    (eC_DeskError : PySem.W.subIn K (.ref C_DeskError) (.type "BaseException") = some true)
    (tC_DeskError : PySem.W.typeIn K (.ref C_DeskError) = some (.type "type"))
    (hC_DeskError : PySem.W.hasDictIn K C_DeskError = true)
    (sD_Unsettled_DeskError : PySem.W.subIn K (.ref C_Unsettled) (.ref C_DeskError) = some true)
    (ocn : PySem.W.specialIn K (.builtin "object.__class__") "__get__" = some (some (.builtin "getset_descriptor.__get__")))
    (oct : PySem.W.takesIn K (.builtin "object.__class__") = some true)
    (cc_Unsettled : PySem.W.findIn K (.ref C_Unsettled) "__class__" = some (some (.builtin "object.__class__")))
    (cm_Unsettled : PySem.W.mroIn K C_Unsettled (.type "object") = some true)
    (v_HEAD : PySem.W.nsIn K mainGlobals "HEAD" = some (some (.ref h_HEAD)))
    (hl_HEAD : K.lookup h_HEAD = some ⟨.type "tuple", hd_HEAD, .seq #[.int 0 ht_HEAD_0, .int 0 ht_HEAD_1] hn_HEAD, hs_HEAD⟩)
    (v_END : PySem.W.nsIn K mainGlobals "END" = some (some (.ref h_END)))
    (hl_END : K.lookup h_END = some ⟨.type "tuple", hd_END, .seq #[.int 0 ht_END_0, .int 1 ht_END_1] hn_END, hs_END⟩)
    (z_abs : PySem.W.nsIn K mainGlobals "abs" = some none)
    (z_bool : PySem.W.nsIn K mainGlobals "bool" = some none)
    (z_dict : PySem.W.nsIn K mainGlobals "dict" = some none)
    (z_int : PySem.W.nsIn K mainGlobals "int" = some none)
    (z_isinstance : PySem.W.nsIn K mainGlobals "isinstance" = some none)
    (z_len : PySem.W.nsIn K mainGlobals "len" = some none)
    (z_list : PySem.W.nsIn K mainGlobals "list" = some none)
    (z_min : PySem.W.nsIn K mainGlobals "min" = some none)
    (z_range : PySem.W.nsIn K mainGlobals "range" = some none)
    (z_str : PySem.W.nsIn K mainGlobals "str" = some none)
    (z_tuple : PySem.W.nsIn K mainGlobals "tuple" = some none)
    (z_zip : PySem.W.nsIn K mainGlobals "zip" = some none) :
    ∃ fd : FuncData, (∀ (s : Shared) (v : Value), BindsTo s fd ⟨[v], []⟩ [("_law_script", v)]) ∧ ∀ base : Heap, K.In base → base.Ns mainGlobals mg → FnOk l.prog w K mg base CX0 10 fa fd ["_law_script"] (sp_law K) := by
  have e := hfa.symm.trans (PySem.W.mg_of X G a_law)
  cases e
  have F_hops_of := fun_mk (st := s_hops_of) l_hops_of c_hops_of k_hops_of
  have F_told_ahead := fun_mk (st := s_told_ahead) l_told_ahead c_told_ahead k_told_ahead
  have F_at_or_ahead := fun_mk (st := s_at_or_ahead) l_at_or_ahead c_at_or_ahead k_at_or_ahead
  have F_letter_of := fun_mk (st := s_letter_of) l_letter_of c_letter_of k_letter_of
  have F_chunk_size := fun_mk (st := s_chunk_size) l_chunk_size c_chunk_size k_chunk_size
  have F_has_deed := fun_mk (st := s_has_deed) l_has_deed c_has_deed k_has_deed
  have F_choice_for := fun_mk (st := s_choice_for) l_choice_for c_choice_for k_choice_for
  have F_laid_out := fun_mk (st := s_laid_out) l_laid_out c_laid_out k_laid_out
  have F_own_keeper := fun_mk (st := s_own_keeper) l_own_keeper c_own_keeper k_own_keeper
  have F_cut_away := fun_mk (st := s_cut_away) l_cut_away c_cut_away k_cut_away
  have F_shown_by := fun_mk (st := s_shown_by) l_shown_by c_shown_by k_shown_by
  have F_letters_of := fun_mk (st := s_letters_of) l_letters_of c_letters_of k_letters_of
  have F_first_untold := fun_mk (st := s_first_untold) l_first_untold c_first_untold k_first_untold
  have F_shown_signs := fun_mk (st := s_shown_signs) l_shown_signs c_shown_signs k_shown_signs
  have F_is_settled := fun_mk (st := s_is_settled) l_is_settled c_is_settled k_is_settled
  have F_row_of := fun_mk (st := s_row_of) l_row_of c_row_of k_row_of
  have F_text_of := fun_mk (st := s_text_of) l_text_of c_text_of k_text_of
  have F_law_draws := fun_mk (st := s_law_draws) l_law_draws c_law_draws k_law_draws
  have F_law_pick := fun_mk (st := s_law_pick) l_law_pick c_law_pick k_law_pick
  have F_law_say := fun_mk (st := s_law_say) l_law_say c_law_say k_law_say
  have F_law_all := fun_mk (st := s_law_all) l_law_all c_law_all k_law_all
  have F_law_closed := fun_mk (st := s_law_closed) l_law_closed c_law_closed k_law_closed
  have F_law_behind := fun_mk (st := s_law_behind) l_law_behind c_law_behind k_law_behind
  have F_law_ahead := fun_mk (st := s_law_ahead) l_law_ahead c_law_ahead k_law_ahead
  have F_law_close := fun_mk (st := s_law_close) l_law_close c_law_close k_law_close
  have F_law_pair := fun_mk (st := s_law_pair) l_law_pair c_law_pair k_law_pair
  have F_law_same := fun_mk (st := s_law_same) l_law_same c_law_same k_law_same
  have F_law_laid := fun_mk (st := s_law_laid) l_law_laid c_law_laid k_law_laid
  have F_law_num := fun_mk (st := s_law_num) l_law_num c_law_num k_law_num
  have F_law_is_cut := fun_mk (st := s_law_is_cut) l_law_is_cut c_law_is_cut k_law_is_cut
  have F_law_seen := fun_mk (st := s_law_seen) l_law_seen c_law_seen k_law_seen
  have F_law_sheet := fun_mk (st := s_law_sheet) l_law_sheet c_law_sheet k_law_sheet
  have F_law_hinge := fun_mk (st := s_law_hinge) l_law_hinge c_law_hinge k_law_hinge
  have F_law_handed := fun_mk (st := s_law_handed) l_law_handed c_law_handed k_law_handed
  have F_law_cuts := fun_mk (st := s_law_cuts) l_law_cuts c_law_cuts k_law_cuts
  have F_law_told := fun_mk (st := s_law_told) l_law_told c_law_told k_law_told
  have F_law_settled := fun_mk (st := s_law_settled) l_law_settled c_law_settled k_law_settled
  have F_law_in_order := fun_mk (st := s_law_in_order) l_law_in_order c_law_in_order k_law_in_order
  have F_law_neighbours := fun_mk (st := s_law_neighbours) l_law_neighbours c_law_neighbours k_law_neighbours
  have F_law_heard := fun_mk (st := s_law_heard) l_law_heard c_law_heard k_law_heard
  have F_law_due := fun_mk (st := s_law_due) l_law_due c_law_due k_law_due
  have F_law_holds := fun_mk (st := s_law_holds) l_law_holds c_law_holds k_law_holds
  have F_law_keepers := fun_mk (st := s_law_keepers) l_law_keepers c_law_keepers k_law_keepers
  have F_law_choices := fun_mk (st := s_law_choices) l_law_choices c_law_choices k_law_choices
  have F_law_stands := fun_mk (st := s_law_stands) l_law_stands c_law_stands k_law_stands
  have F_law_chain_holds := fun_mk (st := s_law_chain_holds) l_law_chain_holds c_law_chain_holds k_law_chain_holds
  have F_law := fun_mk (st := s_law) l_law c_law k_law
  have F_Unsettled := fun_mk (st := s_init_Unsettled) li_Unsettled ci_Unsettled ki_Unsettled
  let T : Txt K mg := {
    a_hops_of := _, d_hops_of := _, F_hops_of := F_hops_of, b_hops_of := F_hops_of.binds (ps := ["births", "one", "other"]) (fun _ _ _ _ _ _ us hl => match us, hl with | [_, _, _], _ => rfl), g_hops_of := PySem.W.mg_of X G a_hops_of,
    a_told_ahead := _, d_told_ahead := _, F_told_ahead := F_told_ahead, b_told_ahead := F_told_ahead.binds (ps := ["births", "one", "other"]) (fun _ _ _ _ _ _ us hl => match us, hl with | [_, _, _], _ => rfl), g_told_ahead := PySem.W.mg_of X G a_told_ahead,
    a_at_or_ahead := _, d_at_or_ahead := _, F_at_or_ahead := F_at_or_ahead, b_at_or_ahead := F_at_or_ahead.binds (ps := ["births", "one", "other"]) (fun _ _ _ _ _ _ us hl => match us, hl with | [_, _, _], _ => rfl), g_at_or_ahead := PySem.W.mg_of X G a_at_or_ahead,
    a_letter_of := _, d_letter_of := _, F_letter_of := F_letter_of, b_letter_of := F_letter_of.binds (ps := ["births", "sign"]) (fun _ _ _ _ _ _ us hl => match us, hl with | [_, _], _ => rfl), g_letter_of := PySem.W.mg_of X G a_letter_of,
    a_chunk_size := _, d_chunk_size := _, F_chunk_size := F_chunk_size, b_chunk_size := F_chunk_size.binds (ps := ["births", "chunk"]) (fun _ _ _ _ _ _ us hl => match us, hl with | [_, _], _ => rfl), g_chunk_size := PySem.W.mg_of X G a_chunk_size,
    a_has_deed := _, d_has_deed := _, F_has_deed := F_has_deed, b_has_deed := F_has_deed.binds (ps := ["stand", "deed"]) (fun _ _ _ _ _ _ us hl => match us, hl with | [_, _], _ => rfl), g_has_deed := PySem.W.mg_of X G a_has_deed,
    a_choice_for := _, d_choice_for := _, F_choice_for := F_choice_for, b_choice_for := F_choice_for.binds (ps := ["choices", "chunk"]) (fun _ _ _ _ _ _ us hl => match us, hl with | [_, _], _ => rfl), g_choice_for := PySem.W.mg_of X G a_choice_for,
    a_laid_out := _, d_laid_out := _, F_laid_out := F_laid_out, b_laid_out := F_laid_out.binds (ps := ["births", "choices"]) (fun _ _ _ _ _ _ us hl => match us, hl with | [_, _], _ => rfl), g_laid_out := PySem.W.mg_of X G a_laid_out,
    a_own_keeper := _, d_own_keeper := _, F_own_keeper := F_own_keeper, b_own_keeper := F_own_keeper.binds (ps := ["births"]) (fun _ _ _ _ _ _ us hl => match us, hl with | [_], _ => rfl), g_own_keeper := PySem.W.mg_of X G a_own_keeper,
    a_cut_away := _, d_cut_away := _, F_cut_away := F_cut_away, b_cut_away := F_cut_away.binds (ps := ["cuts", "stand"]) (fun _ _ _ _ _ _ us hl => match us, hl with | [_, _], _ => rfl), g_cut_away := PySem.W.mg_of X G a_cut_away,
    a_shown_by := _, d_shown_by := _, F_shown_by := F_shown_by, b_shown_by := F_shown_by.binds (ps := ["births", "cuts", "keeper", "stand"]) (fun _ _ _ _ _ _ us hl => match us, hl with | [_, _, _, _], _ => rfl), g_shown_by := PySem.W.mg_of X G a_shown_by,
    a_letters_of := _, d_letters_of := _, F_letters_of := F_letters_of, b_letters_of := F_letters_of.binds (ps := ["births", "signs"]) (fun _ _ _ _ _ _ us hl => match us, hl with | [_, _], _ => rfl), g_letters_of := PySem.W.mg_of X G a_letters_of,
    a_first_untold := _, d_first_untold := _, F_first_untold := F_first_untold, b_first_untold := F_first_untold.binds (ps := ["births", "row"]) (fun _ _ _ _ _ _ us hl => match us, hl with | [_, _], _ => rfl), g_first_untold := PySem.W.mg_of X G a_first_untold,
    a_shown_signs := _, d_shown_signs := _, F_shown_signs := F_shown_signs, b_shown_signs := F_shown_signs.binds (ps := ["births", "cuts", "stand"]) (fun _ _ _ _ _ _ us hl => match us, hl with | [_, _, _], _ => rfl), g_shown_signs := PySem.W.mg_of X G a_shown_signs,
    a_is_settled := _, d_is_settled := _, F_is_settled := F_is_settled, b_is_settled := F_is_settled.binds (ps := ["births", "cuts", "stand"]) (fun _ _ _ _ _ _ us hl => match us, hl with | [_, _, _], _ => rfl), g_is_settled := PySem.W.mg_of X G a_is_settled,
    a_row_of := _, d_row_of := _, F_row_of := F_row_of, b_row_of := F_row_of.binds (ps := ["births", "cuts", "stand"]) (fun _ _ _ _ _ _ us hl => match us, hl with | [_, _, _], _ => rfl), g_row_of := PySem.W.mg_of X G a_row_of,
    a_text_of := _, d_text_of := _, F_text_of := F_text_of, b_text_of := F_text_of.binds (ps := ["births", "cuts", "stand"]) (fun _ _ _ _ _ _ us hl => match us, hl with | [_, _, _], _ => rfl), g_text_of := PySem.W.mg_of X G a_text_of,
    a_law_draws := _, d_law_draws := _, F_law_draws := F_law_draws, b_law_draws := F_law_draws.binds (ps := ["_law_script"]) (fun _ _ _ _ _ _ us hl => match us, hl with | [_], _ => rfl), g_law_draws := PySem.W.mg_of X G a_law_draws,
    a_law_pick := _, d_law_pick := _, F_law_pick := F_law_pick, b_law_pick := F_law_pick.binds (ps := ["_law_box", "_law_many"]) (fun _ _ _ _ _ _ us hl => match us, hl with | [_, _], _ => rfl), g_law_pick := PySem.W.mg_of X G a_law_pick,
    a_law_say := _, d_law_say := _, F_law_say := F_law_say, b_law_say := F_law_say.binds (ps := ["_law_box", "_law_most"]) (fun _ _ _ _ _ _ us hl => match us, hl with | [_, _], _ => rfl), g_law_say := PySem.W.mg_of X G a_law_say,
    a_law_all := _, d_law_all := _, F_law_all := F_law_all, b_law_all := F_law_all.binds (ps := ["_law_world"]) (fun _ _ _ _ _ _ us hl => match us, hl with | [_], _ => rfl), g_law_all := PySem.W.mg_of X G a_law_all,
    a_law_closed := _, d_law_closed := _, F_law_closed := F_law_closed, b_law_closed := F_law_closed.binds (ps := ["_law_world"]) (fun _ _ _ _ _ _ us hl => match us, hl with | [_], _ => rfl), g_law_closed := PySem.W.mg_of X G a_law_closed,
    a_law_behind := _, d_law_behind := _, F_law_behind := F_law_behind, b_law_behind := F_law_behind.binds (ps := ["_law_table", "_law_j"]) (fun _ _ _ _ _ _ us hl => match us, hl with | [_, _], _ => rfl), g_law_behind := PySem.W.mg_of X G a_law_behind,
    a_law_ahead := _, d_law_ahead := _, F_law_ahead := F_law_ahead, b_law_ahead := F_law_ahead.binds (ps := ["_law_table", "_law_j"]) (fun _ _ _ _ _ _ us hl => match us, hl with | [_, _], _ => rfl), g_law_ahead := PySem.W.mg_of X G a_law_ahead,
    a_law_close := _, d_law_close := _, F_law_close := F_law_close, b_law_close := F_law_close.binds (ps := ["_law_table", "_law_j"]) (fun _ _ _ _ _ _ us hl => match us, hl with | [_, _], _ => rfl), g_law_close := PySem.W.mg_of X G a_law_close,
    a_law_pair := _, d_law_pair := _, F_law_pair := F_law_pair, b_law_pair := F_law_pair.binds (ps := ["_law_box", "_law_table", "_law_mode"]) (fun _ _ _ _ _ _ us hl => match us, hl with | [_, _, _], _ => rfl), g_law_pair := PySem.W.mg_of X G a_law_pair,
    a_law_same := _, d_law_same := _, F_law_same := F_law_same, b_law_same := F_law_same.binds (ps := ["_law_a", "_law_b"]) (fun _ _ _ _ _ _ us hl => match us, hl with | [_, _], _ => rfl), g_law_same := PySem.W.mg_of X G a_law_same,
    a_law_laid := _, d_law_laid := _, F_law_laid := F_law_laid, b_law_laid := F_law_laid.binds (ps := ["_law_world", "_law_choices_here"]) (fun _ _ _ _ _ _ us hl => match us, hl with | [_, _], _ => rfl), g_law_laid := PySem.W.mg_of X G a_law_laid,
    a_law_num := _, d_law_num := _, F_law_num := F_law_num, b_law_num := F_law_num.binds (ps := ["_law_kind", "_law_d"]) (fun _ _ _ _ _ _ us hl => match us, hl with | [_, _], _ => rfl), g_law_num := PySem.W.mg_of X G a_law_num,
    a_law_is_cut := _, d_law_is_cut := _, F_law_is_cut := F_law_is_cut, b_law_is_cut := F_law_is_cut.binds (ps := ["_law_lots", "_law_mask", "_law_mark"]) (fun _ _ _ _ _ _ us hl => match us, hl with | [_, _, _], _ => rfl), g_law_is_cut := PySem.W.mg_of X G a_law_is_cut,
    a_law_seen := _, d_law_seen := _, F_law_seen := F_law_seen, b_law_seen := F_law_seen.binds (ps := ["_law_world", "_law_lots", "_law_mask", "_law_row"]) (fun _ _ _ _ _ _ us hl => match us, hl with | [_, _, _, _], _ => rfl), g_law_seen := PySem.W.mg_of X G a_law_seen,
    a_law_sheet := _, d_law_sheet := _, F_law_sheet := F_law_sheet, b_law_sheet := F_law_sheet.binds (ps := ["_law_box", "_law_many", "_law_kind"]) (fun _ _ _ _ _ _ us hl => match us, hl with | [_, _, _], _ => rfl), g_law_sheet := PySem.W.mg_of X G a_law_sheet,
    a_law_hinge := _, d_law_hinge := _, F_law_hinge := F_law_hinge, b_law_hinge := F_law_hinge.binds (ps := ["_law_box", "_law_many", "_law_kind"]) (fun _ _ _ _ _ _ us hl => match us, hl with | [_, _, _], _ => rfl), g_law_hinge := PySem.W.mg_of X G a_law_hinge,
    a_law_handed := _, d_law_handed := _, F_law_handed := F_law_handed, b_law_handed := F_law_handed.binds (ps := ["_law_box", "_law_many", "_law_kind"]) (fun _ _ _ _ _ _ us hl => match us, hl with | [_, _, _], _ => rfl), g_law_handed := PySem.W.mg_of X G a_law_handed,
    a_law_cuts := _, d_law_cuts := _, F_law_cuts := F_law_cuts, b_law_cuts := F_law_cuts.binds (ps := ["_law_world", "_law_lots"]) (fun _ _ _ _ _ _ us hl => match us, hl with | [_, _], _ => rfl), g_law_cuts := PySem.W.mg_of X G a_law_cuts,
    a_law_told := _, d_law_told := _, F_law_told := F_law_told, b_law_told := F_law_told.binds (ps := ["_law_table", "_law_a", "_law_b"]) (fun _ _ _ _ _ _ us hl => match us, hl with | [_, _, _], _ => rfl), g_law_told := PySem.W.mg_of X G a_law_told,
    a_law_settled := _, d_law_settled := _, F_law_settled := F_law_settled, b_law_settled := F_law_settled.binds (ps := ["_law_table", "_law_spots"]) (fun _ _ _ _ _ _ us hl => match us, hl with | [_, _], _ => rfl), g_law_settled := PySem.W.mg_of X G a_law_settled,
    a_law_in_order := _, d_law_in_order := _, F_law_in_order := F_law_in_order, b_law_in_order := F_law_in_order.binds (ps := ["_law_marks", "_law_table", "_law_spots"]) (fun _ _ _ _ _ _ us hl => match us, hl with | [_, _, _], _ => rfl), g_law_in_order := PySem.W.mg_of X G a_law_in_order,
    a_law_neighbours := _, d_law_neighbours := _, F_law_neighbours := F_law_neighbours, b_law_neighbours := F_law_neighbours.binds (ps := ["_law_marks", "_law_table", "_law_row"]) (fun _ _ _ _ _ _ us hl => match us, hl with | [_, _, _], _ => rfl), g_law_neighbours := PySem.W.mg_of X G a_law_neighbours,
    a_law_heard := _, d_law_heard := _, F_law_heard := F_law_heard, b_law_heard := F_law_heard.binds (ps := ["_law_letters", "_law_world", "_law_gone", "_law_mask"]) (fun _ _ _ _ _ _ us hl => match us, hl with | [_, _, _, _], _ => rfl), g_law_heard := PySem.W.mg_of X G a_law_heard,
    a_law_due := _, d_law_due := _, F_law_due := F_law_due, b_law_due := F_law_due.binds (ps := ["_law_world", "_law_lots", "_law_marks", "_law_table", "_law_mask"]) (fun _ _ _ _ _ _ us hl => match us, hl with | [_, _, _, _, _], _ => rfl), g_law_due := PySem.W.mg_of X G a_law_due,
    a_law_holds := _, d_law_holds := _, F_law_holds := F_law_holds, b_law_holds := F_law_holds.binds (ps := ["_law_world", "_law_gone", "_law_mask", "_law_due_here"]) (fun _ _ _ _ _ _ us hl => match us, hl with | [_, _, _, _], _ => rfl), g_law_holds := PySem.W.mg_of X G a_law_holds,
    a_law_keepers := _, d_law_keepers := _, F_law_keepers := F_law_keepers, b_law_keepers := F_law_keepers.binds (ps := ["_law_world", "_law_lots", "_law_marks", "_law_table", "_law_mask", "_law_laid_here", "_law_due_here"]) (fun _ _ _ _ _ _ us hl => match us, hl with | [_, _, _, _, _, _, _], _ => rfl), g_law_keepers := PySem.W.mg_of X G a_law_keepers,
    a_law_choices := _, d_law_choices := _, F_law_choices := F_law_choices, b_law_choices := F_law_choices.binds (ps := ["_law_box", "_law_many"]) (fun _ _ _ _ _ _ us hl => match us, hl with | [_, _], _ => rfl), g_law_choices := PySem.W.mg_of X G a_law_choices,
    a_law_stands := _, d_law_stands := _, F_law_stands := F_law_stands, b_law_stands := F_law_stands.binds (ps := ["_law_many", "_law_kind"]) (fun _ _ _ _ _ _ us hl => match us, hl with | [_, _], _ => rfl), g_law_stands := PySem.W.mg_of X G a_law_stands,
    a_law_chain_holds := _, d_law_chain_holds := _, F_law_chain_holds := F_law_chain_holds, b_law_chain_holds := F_law_chain_holds.binds (ps := ["_law_box"]) (fun _ _ _ _ _ _ us hl => match us, hl with | [_], _ => rfl), g_law_chain_holds := PySem.W.mg_of X G a_law_chain_holds,
    a_law := _, d_law := _, F_law := F_law, b_law := F_law.binds (ps := ["_law_script"]) (fun _ _ _ _ _ _ us hl => match us, hl with | [_], _ => rfl), g_law := PySem.W.mg_of X G a_law,
    kb_is_settled := ⟨fun _ us ws _ hl => match us, ws, hl with | [], [_, _, _], _ => .of_eq rfl, p210_rel⟩,
    kb_row_of := ⟨fun _ us ws _ hl => match us, ws, hl with | [], [_, _, _], _ => .of_eq rfl, p210_rel⟩,
    c_Unsettled := C_Unsettled, ai_Unsettled := fi_Unsettled, d_Unsettled := _, F_Unsettled := F_Unsettled, b_Unsettled := F_Unsettled.binds (ps := ["self", "one", "other"]) (fun _ _ _ _ _ _ us hl => match us, hl with | [_, _, _], _ => rfl), g_Unsettled := PySem.W.mg_of X G aC_Unsettled,
    o_Unsettled := ⟨⟨_, _, _, _, _, _, _, _, _, _, _, _, _, _, _, xL_Unsettled, rfl⟩, sa_Unsettled, eC_Unsettled, tC_Unsettled, kC_Unsettled⟩, x_Unsettled := ⟨ga_Unsettled, gg_Unsettled, eC_Unsettled, hC_Unsettled⟩,
    i_Unsettled := iC_Unsettled, ti_Unsettled := ti_Unsettled, e_Unsettled := exm_self eC_Unsettled yC_Unsettled tC_Unsettled sC_Unsettled,
    na_Unsettled_one := na_Unsettled_one,
    na_Unsettled_other := na_Unsettled_other,
    c_DeskError := C_DeskError, g_DeskError := PySem.W.mg_of X G aC_DeskError,
    e_Unsettled_DeskError := PySem.W.exm_ref eC_DeskError hC_DeskError tC_DeskError sD_Unsettled_DeskError,
    q_Unsettled := ⟨ga_Unsettled, gg_Unsettled, eC_Unsettled, hC_Unsettled, cc_Unsettled, ocn, oct, cm_Unsettled⟩,
    a_HEAD := h_HEAD, u_HEAD := ⟨_, _, _, hl_HEAD, rfl, rfl, (show 2 ≤ sizeLine by decide), (.cons ⟨_, rfl⟩ (.cons ⟨_, rfl⟩ .nil))⟩,
    a_END := h_END, u_END := ⟨_, _, _, hl_END, rfl, rfl, (show 2 ≤ sizeLine by decide), (.cons ⟨_, rfl⟩ (.cons ⟨_, rfl⟩ .nil))⟩,
    g_HEAD := PySem.W.mg_of X G v_HEAD,
    g_END := PySem.W.mg_of X G v_END,
    n_abs := PySem.W.mg_none_of X G z_abs,
    n_bool := PySem.W.mg_none_of X G z_bool,
    n_dict := PySem.W.mg_none_of X G z_dict,
    n_int := PySem.W.mg_none_of X G z_int,
    n_isinstance := PySem.W.mg_none_of X G z_isinstance,
    n_len := PySem.W.mg_none_of X G z_len,
    n_list := PySem.W.mg_none_of X G z_list,
    n_min := PySem.W.mg_none_of X G z_min,
    n_range := PySem.W.mg_none_of X G z_range,
    n_str := PySem.W.mg_none_of X G z_str,
    n_tuple := PySem.W.mg_none_of X G z_tuple,
    n_zip := PySem.W.mg_none_of X G z_zip }
  exact ⟨PySem.W.fnOf "law" "law" (defArgs s_law) (defBody s_law) (defScope s_law) .none kV_law dc_law pm_law an_law cd_law ct_law, fun s v => .of_eq rfl, fun base _ _ => ok_law T⟩
end K23
open PySem PySem.W PyProof.Rows
set_option maxHeartbeats 0 in
theorem PySem.Challenge.cw_deedstand_k23_whole_settled_exactly_holds : PySem.Challenge.rw_deedstand_k23_whole_settled_exactly.Holds := by
  w_on; o_law; k_head; (case hw => w_witness2)
  k_fill
  refine L2.walk_of (l := PySem.Challenge.rw_deedstand_k23_whole_settled_exactly) (n := 63) (k := 10) (x := "_law_script") (CX := fun _ => L2.CX0) (sp := fun w => K23.sp_law _) rfl (by decide) rfl ⟨rfl, by decide, by decide⟩ (fun w h Y => PySem.W.kIn_of Y) ?F (fun _ _ a ns hl _ hS => ⟨a, ns, rfl, hS, hl, fun _ => rfl⟩) (fun _ _ _ _ _ h => h)
  case F =>
    intro w mg fa h KX G hmg
    refine' K23.all_mk KX G hmg ?a_hops_of ?l_hops_of ?c_hops_of ?k_hops_of ?a_told_ahead ?l_told_ahead ?c_told_ahead ?k_told_ahead ?a_at_or_ahead ?l_at_or_ahead ?c_at_or_ahead ?k_at_or_ahead ?a_letter_of ?l_letter_of ?c_letter_of ?k_letter_of ?a_chunk_size ?l_chunk_size ?c_chunk_size ?k_chunk_size ?a_has_deed ?l_has_deed ?c_has_deed ?k_has_deed ?a_choice_for ?l_choice_for ?c_choice_for ?k_choice_for ?a_laid_out ?l_laid_out ?c_laid_out ?k_laid_out ?a_own_keeper ?l_own_keeper ?c_own_keeper ?k_own_keeper ?a_cut_away ?l_cut_away ?c_cut_away ?k_cut_away ?a_shown_by ?l_shown_by ?c_shown_by ?k_shown_by ?a_letters_of ?l_letters_of ?c_letters_of ?k_letters_of ?a_first_untold ?l_first_untold ?c_first_untold ?k_first_untold ?a_shown_signs ?l_shown_signs ?c_shown_signs ?k_shown_signs ?a_is_settled ?l_is_settled ?c_is_settled ?k_is_settled ?a_row_of ?l_row_of ?c_row_of ?k_row_of ?a_text_of ?l_text_of ?c_text_of ?k_text_of ?a_law_draws ?l_law_draws ?c_law_draws ?k_law_draws ?a_law_pick ?l_law_pick ?c_law_pick ?k_law_pick ?a_law_say ?l_law_say ?c_law_say ?k_law_say ?a_law_all ?l_law_all ?c_law_all ?k_law_all ?a_law_closed ?l_law_closed ?c_law_closed ?k_law_closed ?a_law_behind ?l_law_behind ?c_law_behind ?k_law_behind ?a_law_ahead ?l_law_ahead ?c_law_ahead ?k_law_ahead ?a_law_close ?l_law_close ?c_law_close ?k_law_close ?a_law_pair ?l_law_pair ?c_law_pair ?k_law_pair ?a_law_same ?l_law_same ?c_law_same ?k_law_same ?a_law_laid ?l_law_laid ?c_law_laid ?k_law_laid ?a_law_num ?l_law_num ?c_law_num ?k_law_num ?a_law_is_cut ?l_law_is_cut ?c_law_is_cut ?k_law_is_cut ?a_law_seen ?l_law_seen ?c_law_seen ?k_law_seen ?a_law_sheet ?l_law_sheet ?c_law_sheet ?k_law_sheet ?a_law_hinge ?l_law_hinge ?c_law_hinge ?k_law_hinge ?a_law_handed ?l_law_handed ?c_law_handed ?k_law_handed ?a_law_cuts ?l_law_cuts ?c_law_cuts ?k_law_cuts ?a_law_told ?l_law_told ?c_law_told ?k_law_told ?a_law_settled ?l_law_settled ?c_law_settled ?k_law_settled ?a_law_in_order ?l_law_in_order ?c_law_in_order ?k_law_in_order ?a_law_neighbours ?l_law_neighbours ?c_law_neighbours ?k_law_neighbours ?a_law_heard ?l_law_heard ?c_law_heard ?k_law_heard ?a_law_due ?l_law_due ?c_law_due ?k_law_due ?a_law_holds ?l_law_holds ?c_law_holds ?k_law_holds ?a_law_keepers ?l_law_keepers ?c_law_keepers ?k_law_keepers ?a_law_choices ?l_law_choices ?c_law_choices ?k_law_choices ?a_law_stands ?l_law_stands ?c_law_stands ?k_law_stands ?a_law_chain_holds ?l_law_chain_holds ?c_law_chain_holds ?k_law_chain_holds ?a_law ?l_law ?c_law ?k_law ?aC_Unsettled ?xL_Unsettled ?sa_Unsettled ?ga_Unsettled ?gg_Unsettled ?na_Unsettled_one ?na_Unsettled_other ?iC_Unsettled ?ti_Unsettled ?li_Unsettled ?ci_Unsettled ?ki_Unsettled ?kC_Unsettled ?eC_Unsettled ?tC_Unsettled ?hC_Unsettled ?yC_Unsettled ?sC_Unsettled ?aC_DeskError ?eC_DeskError ?tC_DeskError ?hC_DeskError ?sD_Unsettled_DeskError ?ocn ?oct ?cc_Unsettled ?cm_Unsettled ?v_HEAD ?hl_HEAD ?v_END ?hl_END ?z_abs ?z_bool ?z_dict ?z_int ?z_isinstance ?z_len ?z_list ?z_min ?z_range ?z_str ?z_tuple ?z_zip
    (case a_hops_of => k_is)
    (case l_hops_of => k_is)
    (case c_hops_of => k_is)
    (case k_hops_of => k_is)
    (case a_told_ahead => k_is)
    (case l_told_ahead => k_is)
    (case c_told_ahead => k_is)
    (case k_told_ahead => k_is)
    (case a_at_or_ahead => k_is)
    (case l_at_or_ahead => k_is)
    (case c_at_or_ahead => k_is)
    (case k_at_or_ahead => k_is)
    (case a_letter_of => k_is)
    (case l_letter_of => k_is)
    (case c_letter_of => k_is)
    (case k_letter_of => k_is)
    (case a_chunk_size => k_is)
    (case l_chunk_size => k_is)
    (case c_chunk_size => k_is)
    (case k_chunk_size => k_is)
    (case a_has_deed => k_is)
    (case l_has_deed => k_is)
    (case c_has_deed => k_is)
    (case k_has_deed => k_is)
    (case a_choice_for => k_is)
    (case l_choice_for => k_is)
    (case c_choice_for => k_is)
    (case k_choice_for => k_is)
    (case a_laid_out => k_is)
    (case l_laid_out => k_is)
    (case c_laid_out => k_is)
    (case k_laid_out => k_is)
    (case a_own_keeper => k_is)
    (case l_own_keeper => k_is)
    (case c_own_keeper => k_is)
    (case k_own_keeper => k_is)
    (case a_cut_away => k_is)
    (case l_cut_away => k_is)
    (case c_cut_away => k_is)
    (case k_cut_away => k_is)
    (case a_shown_by => k_is)
    (case l_shown_by => k_is)
    (case c_shown_by => k_is)
    (case k_shown_by => k_is)
    (case a_letters_of => k_is)
    (case l_letters_of => k_is)
    (case c_letters_of => k_is)
    (case k_letters_of => k_is)
    (case a_first_untold => k_is)
    (case l_first_untold => k_is)
    (case c_first_untold => k_is)
    (case k_first_untold => k_is)
    (case a_shown_signs => k_is)
    (case l_shown_signs => k_is)
    (case c_shown_signs => k_is)
    (case k_shown_signs => k_is)
    (case a_is_settled => k_is)
    (case l_is_settled => k_is)
    (case c_is_settled => k_is)
    (case k_is_settled => k_is)
    (case a_row_of => k_is)
    (case l_row_of => k_is)
    (case c_row_of => k_is)
    (case k_row_of => k_is)
    (case a_text_of => k_is)
    (case l_text_of => k_is)
    (case c_text_of => k_is)
    (case k_text_of => k_is)
    (case a_law_draws => k_is)
    (case l_law_draws => k_is)
    (case c_law_draws => k_is)
    (case k_law_draws => k_is)
    (case a_law_pick => k_is)
    (case l_law_pick => k_is)
    (case c_law_pick => k_is)
    (case k_law_pick => k_is)
    (case a_law_say => k_is)
    (case l_law_say => k_is)
    (case c_law_say => k_is)
    (case k_law_say => k_is)
    (case a_law_all => k_is)
    (case l_law_all => k_is)
    (case c_law_all => k_is)
    (case k_law_all => k_is)
    (case a_law_closed => k_is)
    (case l_law_closed => k_is)
    (case c_law_closed => k_is)
    (case k_law_closed => k_is)
    (case a_law_behind => k_is)
    (case l_law_behind => k_is)
    (case c_law_behind => k_is)
    (case k_law_behind => k_is)
    (case a_law_ahead => k_is)
    (case l_law_ahead => k_is)
    (case c_law_ahead => k_is)
    (case k_law_ahead => k_is)
    (case a_law_close => k_is)
    (case l_law_close => k_is)
    (case c_law_close => k_is)
    (case k_law_close => k_is)
    (case a_law_pair => k_is)
    (case l_law_pair => k_is)
    (case c_law_pair => k_is)
    (case k_law_pair => k_is)
    (case a_law_same => k_is)
    (case l_law_same => k_is)
    (case c_law_same => k_is)
    (case k_law_same => k_is)
    (case a_law_laid => k_is)
    (case l_law_laid => k_is)
    (case c_law_laid => k_is)
    (case k_law_laid => k_is)
    (case a_law_num => k_is)
    (case l_law_num => k_is)
    (case c_law_num => k_is)
    (case k_law_num => k_is)
    (case a_law_is_cut => k_is)
    (case l_law_is_cut => k_is)
    (case c_law_is_cut => k_is)
    (case k_law_is_cut => k_is)
    (case a_law_seen => k_is)
    (case l_law_seen => k_is)
    (case c_law_seen => k_is)
    (case k_law_seen => k_is)
    (case a_law_sheet => k_is)
    (case l_law_sheet => k_is)
    (case c_law_sheet => k_is)
    (case k_law_sheet => k_is)
    (case a_law_hinge => k_is)
    (case l_law_hinge => k_is)
    (case c_law_hinge => k_is)
    (case k_law_hinge => k_is)
    (case a_law_handed => k_is)
    (case l_law_handed => k_is)
    (case c_law_handed => k_is)
    (case k_law_handed => k_is)
    (case a_law_cuts => k_is)
    (case l_law_cuts => k_is)
    (case c_law_cuts => k_is)
    (case k_law_cuts => k_is)
    (case a_law_told => k_is)
    (case l_law_told => k_is)
    (case c_law_told => k_is)
    (case k_law_told => k_is)
    (case a_law_settled => k_is)
    (case l_law_settled => k_is)
    (case c_law_settled => k_is)
    (case k_law_settled => k_is)
    (case a_law_in_order => k_is)
    (case l_law_in_order => k_is)
    (case c_law_in_order => k_is)
    (case k_law_in_order => k_is)
    (case a_law_neighbours => k_is)
    (case l_law_neighbours => k_is)
    (case c_law_neighbours => k_is)
    (case k_law_neighbours => k_is)
    (case a_law_heard => k_is)
    (case l_law_heard => k_is)
    (case c_law_heard => k_is)
    (case k_law_heard => k_is)
    (case a_law_due => k_is)
    (case l_law_due => k_is)
    (case c_law_due => k_is)
    (case k_law_due => k_is)
    (case a_law_holds => k_is)
    (case l_law_holds => k_is)
    (case c_law_holds => k_is)
    (case k_law_holds => k_is)
    (case a_law_keepers => k_is)
    (case l_law_keepers => k_is)
    (case c_law_keepers => k_is)
    (case k_law_keepers => k_is)
    (case a_law_choices => k_is)
    (case l_law_choices => k_is)
    (case c_law_choices => k_is)
    (case k_law_choices => k_is)
    (case a_law_stands => k_is)
    (case l_law_stands => k_is)
    (case c_law_stands => k_is)
    (case k_law_stands => k_is)
    (case a_law_chain_holds => k_is)
    (case l_law_chain_holds => k_is)
    (case c_law_chain_holds => k_is)
    (case k_law_chain_holds => k_is)
    (case a_law => k_is)
    (case l_law => k_is)
    (case c_law => k_is)
    (case k_law => k_is)
    (case aC_Unsettled => k_is)
    (case xL_Unsettled => k_is)
    (case sa_Unsettled => k_is)
    (case ga_Unsettled => k_is)
    (case gg_Unsettled => k_is)
    (case na_Unsettled_one => k_is)
    (case na_Unsettled_other => k_is)
    (case iC_Unsettled => k_is)
    (case ti_Unsettled => k_is)
    (case li_Unsettled => k_is)
    (case ci_Unsettled => k_is)
    (case ki_Unsettled => k_is)
    (case kC_Unsettled => k_is)
    (case eC_Unsettled => k_is)
    (case tC_Unsettled => k_is)
    (case hC_Unsettled => k_is)
    (case yC_Unsettled => k_is)
    (case sC_Unsettled => first | rfl | k_is)
    (case aC_DeskError => k_is)
    (case eC_DeskError => k_is)
    (case tC_DeskError => k_is)
    (case hC_DeskError => k_is)
    (case sD_Unsettled_DeskError => k_is)
    (case ocn => k_is)
    (case oct => k_is)
    (case cc_Unsettled => k_is)
    (case cm_Unsettled => k_is)
    (case v_HEAD => k_is)
    (case hl_HEAD => k_is)
    (case v_END => k_is)
    (case hl_END => k_is)
    (case z_abs => k_is)
    (case z_bool => k_is)
    (case z_dict => k_is)
    (case z_int => k_is)
    (case z_isinstance => k_is)
    (case z_len => k_is)
    (case z_list => k_is)
    (case z_min => k_is)
    (case z_range => k_is)
    (case z_str => k_is)
    (case z_tuple => k_is)
    (case z_zip => k_is)
