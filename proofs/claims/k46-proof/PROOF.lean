import PyProof.Rows.All
import Wide.All
import OpenK.AllK
import Wide.FinOn
import HandS.ForMost
import HandS.Walk
import KE.GoesEnum
import HandS.Exc
import HandS.ExcOwn
import HandS.ExcInit
import HandS.ExcField
import HandS.TryOnly
import HandS.WordsExc
import HandS.IsInst
import HandS.Wide
import HandS.TupAny
import HandS.Flow
import HandS.Evl
import HandS.Deep
import HandS.Conv
import HandS.WideBits
import HandS.NoneIn
import HandS.Zip
import HandS.Rev
import PyProof.StrBlock2
import KE.DataMinMax
import HandS.SortRule
import KE.SortData
import KE.GoesZip
import KE.GoesMore
import KE.KRevSl
import HandS.Flt
import KE.KDictZip
import HandS.ExcIs
import KE.KExcIs
import PyProof.SeqIndex
import HandS.Small
import HandS.ListItems
import HandS.SetFor
import HandS.Iter
import HandS.Star
import HandS.StrMore
import HandS.Defaults
import PyProof.StrLawsLast
import HandS.SortInts
import HandS.Strs
import PySem.Challenge.RW_deedstand_k46_whole_entering_at_picks
set_option Elab.async false
set_option linter.all false
set_option maxRecDepth 100000
set_option maxHeartbeats 4000000
/-! enumerate over a tuple and over a text, one argument -/
namespace Dk
open PySem PySem.Spec PyProof.Rows L2
/-- the object that enumerate(v) makes -/
abbrev enObj (it : Addr) : Obj := { cls := .type "enumerate", data := .fields #[.none, .bool false, .ref it, rawInt 0, .none, .none] }
theorem enum_new1 {v : Value} {o : Obj} {G : Heap → Prop} (B : Begins v o G) :
    Meets (Builtin.«enumerate.__new__» ⟨[.type "enumerate", v], []⟩) fun _ R s =>
      G s.heap ∧ R (.ok (.ret (.ref (s.heap.push o).objs.size))) { s with heap := (s.heap.push o).push (enObj s.heap.objs.size) } := by
  refine .of_wp fun prog w A R s hh => ?_
  rcases s with ⟨hp, gs, dr, tk, os⟩
  obtain ⟨hG, hR⟩ := hh
  have hs := sub_enumerate
  have go : ∀ {A' : Around} {E : Value → Shared → Prop} {Q : Value → Shared → Prop},
      Q (.ref hp.objs.size) ⟨hp.push o, gs, dr, tk, os⟩ → wpAny (model prog w) A' (pyIter v) Q E ⟨hp, gs, dr, tk, os⟩ :=
    fun q => B.iter prog w _ _ ⟨hp, gs, dr, tk, os⟩ _ hG q
  wp_walk using go
  refine wpAny_stack_any fun st => ?_
  refine wpAny_pure ?_
  split
  · rename_i c _ _ _ _ _
    cases (c == Value.type "enumerate") <;> (wp_walk using go; exact ⟨_, rfl, hR⟩)
  · wp_walk using go
    exact ⟨_, rfl, hR⟩
section
variable {prog : Program} {w : World} {A : Around} {E : Value → Shared → Prop} {s : Shared}
theorem enum_call1 {v : Value} {o : Obj} {G : Heap → Prop} {Q : Value → Shared → Prop} (B : Begins v o G) (hG : G s.heap)
    (q : ∀ h', IsEnum h' (s.heap.objs.size + 1) s.heap.objs.size 0 .none → h'.get? s.heap.objs.size = some o →
      (∀ b u, s.heap.get? b = some u → h'.get? b = some u) → Q (.ref (s.heap.objs.size + 1)) { s with heap := h' }) :
    wpAny (model prog w) A (call (.type "enumerate") [v]) Q E s := by
  have sz : (s.heap.push o).objs.size = s.heap.objs.size + 1 := Heap.size_push ..
  have he : IsEnum ((s.heap.push o).push (enObj s.heap.objs.size)) (s.heap.objs.size + 1) s.heap.objs.size 0 .none := by
    have z := Heap.get?_push_size (s.heap.push o) (o := enObj s.heap.objs.size) rfl
    rw [sz] at z
    exact z
  refine callType_new F.called_enumerate (by decide) (F.typeCall_enumerate_1 _) (F.newCall_enumerate_1 _)
    (fun obj => F.args_object_init_2 obj _) F.entry_enumerate_new (enum_new1 B) ⟨hG, ?_⟩
  show _ ∧ _
  rw [sz]
  exact ⟨⟨_, he, rfl⟩, q _ he (Heap.get?_push_of_some _ (Heap.get?_push_size _ B.free))
    fun b u z => Heap.get?_push_of_some _ (Heap.get?_push_of_some _ z)⟩
end
/-- a new pair of the turn's number and f i -/
def ItE (G : Hp → Prop) (n : Nat) (Y : Nat → Hp → V → Prop) : It :=
  ⟨fun i H => G H ∧ i < n, fun i H v H' => ∃ T x, v = .ref T ∧ H T = none ∧ H' = upd H T (.tup [.int (i : Nat), x]) ∧ Y i H x, fun i H => G H ∧ i = n⟩
/-- what the source's own iterator does while the heap is so -/
structure Src (P : Program) (w : World) (K : PySem.W.Frag) (it : Addr) (G : Hp → Prop) (n : Nat) (Y : Nat → Hp → V → Prop) (Tn : Nat → Heap → Prop) : Prop where
  live : ∀ i h, Tn i h → ∃ o, h.get? it = some o ∧ ∀ v, o.data ≠ .cell v
  keep : ∀ i h h', Tn i h → (∀ o, h.get? it = some o → h'.get? it = some o) → Tn i h'
  draw : ∀ (X : Cx), X.prog = P → X.w = w → X.K = K → ∀ (pins : List (Addr × Obj)) (σ : L2.St) (H : Hp) (s : Shared) (i : Nat), Inv X pins σ H s → H it = none → G H → Tn i s.heap → X.A.handled = none →
    ∃ (fp : List Addr) (Pv : Nat → Value → Prop) (St' : Nat → Heap → Prop), Draws P w X.A.in1 it fp n Pv St' ∧ St' i s.heap ∧ (∀ e, H e = none → (∃ old j, IsEnum s.heap e it j old) → e ∉ fp) ∧
      (∀ j u, Pv j u → ∃ x, RelV x u ∧ Y j H x) ∧ ∀ j h, St' j h → Tn j h
theorem turn_E {P : Program} {w : World} {K : PySem.W.Frag} {elts : List Expr} {kk : Nat} {tpos : Pos} {e it : Addr} {G : Hp → Prop} {n : Nat} {Y : Nat → Hp → V → Prop} {Tn : Nat → Heap → Prop} (S : Src P w K it G n Y Tn) :
    Turn P w K (.Tuple elts kk tpos) (ItE G n Y) [e, it] e (fun i h => (∃ old, IsEnum h e it ((i : Nat) : Int) old) ∧ Tn i h ∧ e ≠ it) where
  mem := List.mem_cons_self ..
  obj := fun i h st b hb => by
    obtain ⟨⟨old, he⟩, hs, _⟩ := st
    rcases List.mem_cons.mp hb with z | z
    · subst z
      exact ⟨_, he, fun v q => nomatch q⟩
    · have z' := List.mem_singleton.mp z
      subst z'
      exact S.live i h hs
  keep := fun i h h' st k =>
    ⟨⟨st.1.choose, k e (List.mem_cons_self ..) _ st.1.choose_spec⟩, S.keep i h h' st.2.1 fun o q => k it (List.mem_cons_of_mem _ (List.mem_singleton.mpr rfl)) o q, st.2.2⟩
  item := by
    intro X hP hw hK hc i pins s σ H E I hf st hg
    obtain ⟨⟨old, he⟩, hs, hne⟩ := st
    have fe := hf e (by simp)
    have fi := hf it (by simp)
    obtain ⟨fp, Pv, St', D, hs', hef, hy, back⟩ := S.draw X hP hw hK pins σ H s i I fi.1 hg.1 hs (I.ok.hd hc)
    subst hP hw hK
    have hel : e < s.heap.objs.size := Heap.lt_size he
    obtain ⟨oi, hoi, _⟩ := S.live i _ hs
    have hil : it < s.heap.objs.size := Heap.lt_size hoi
    refine wpAny_pyNext_enum_itemC D he hs' hg.2 hne (hef e fe.1 ⟨_, _, he⟩) fun u h' tk hu ho hst hT hsz hk => ?_
    refine ⟨_, rfl, wpAny_letOwnedTupleGo_enum (s := { s with heap := h', toks := tk + 1 }) ho fun h2 he2 sb => ?_⟩
    obtain ⟨x, rx, yx⟩ := hy i u hu
    have hT2 : h2.get? s.heap.objs.size = some { cls := .type "tuple", data := .seq #[.int i tk, u] } := (sb.2 _ (Nat.ne_of_gt hel)).trans hT
    have new : ObjOk X.prog X.w (upd H s.heap.objs.size (.tup [.int (i : Nat), x])) h2 s.heap.objs.size (.tup [.int (i : Nat), x]) :=
      ⟨by show 2 ≤ sizeLine; decide, [.int i tk, u], .cons ⟨_, rfl⟩ (.cons rx .nil), _, hT2, rfl, _, rfl⟩
    have I1 : Inv X pins σ (upd H s.heap.objs.size (.tup [.int (i : Nat), x])) { s with heap := h2, toks := tk + 1 } := by
      refine I.turnedNew (ch := [e, it]) (fun b o hb q => ?_) hf (Nat.le_refl _) new
      have n1 : b ≠ e := fun z => hb (by simp [z])
      have n2 : b ≠ it := fun z => hb (by simp [z])
      exact (sb.2 b n1).trans (hk b o n1 n2 q)
    refine ⟨.ref s.heap.objs.size, _, I1, rfl, ⟨_, x, rfl, I.hok.fresh (Nat.le_refl _), rfl, yx⟩, ⟨⟨u, ?_⟩, ?_, hne⟩, fun b hb => ?_⟩
    · have e1 : ((i + 1 : Nat) : Int) = (i : Int) + 1 := by omega
      rw [e1]
      exact he2
    · exact S.keep _ _ _ (back _ _ hst) fun o q => (sb.2 it (Ne.symm hne)).trans q
    · have hb' : b < s.heap.objs.size := by
        rcases List.mem_cons.mp hb with z | z
        · exact z ▸ hel
        · exact (List.mem_singleton.mp z) ▸ hil
      rw [upd_ne (Nat.ne_of_lt hb')]
      exact (hf b hb).1
  done := by
    intro X hP hw hK hc i pins s σ H E I hf st hg
    obtain ⟨⟨old, he⟩, hs, hne⟩ := st
    obtain ⟨f0, f1, f2, f3, f4, f5⟩ := hf it (by simp)
    obtain ⟨fp, Pv, St', D, hs', hef, hy, back⟩ := S.draw X hP hw hK pins σ H s i I f0 hg.1 hs (I.ok.hd hc)
    subst hP hw hK
    rw [hg.2] at hs'
    exact wpAny_pyNext_enum_endD D he hs' fun h' eb => ⟨rfl, I.turned (t' := s.toks) (fun b o hb q => eb b o hb q) f0 f1 f3 f4 f5⟩
  self := fun A i s Q E st h => wpAny_pyIter_enum st.1.choose_spec h
theorem src_tup {P : Program} {w : World} {K : PySem.W.Frag} {a it : Addr} {xs : List V} :
    Src P w K it (fun H => SqT K H a xs) xs.length (fun i _ x => xs[i]? = some x) (fun i h => h.IsTupleIter it a i) where
  live := fun i h st => by
    obtain ⟨o, e, c, d⟩ := st
    exact ⟨o, e, fun v z => by rw [d] at z; cases z⟩
  keep := fun i h h' st k => st.at fun o e => k o e
  draw := by
    intro X hP hw hK pins σ H s i I hn hG st hh
    subst hP hw hK
    obtain ⟨its, rv, p, hz⟩ := I.tuple hG
    have pt : s.heap.IsTuple a its.toArray := p
    have hne : a ≠ it := by
      rintro rfl
      obtain ⟨o, e, c, _⟩ := pt
      obtain ⟨o', e', c', _⟩ := id st
      rw [e] at e'
      cases e'
      rw [c] at c'
      injection c' with q
      exact absurd q (by decide)
    have hl := rv.length
    refine ⟨[it, a], fun i v => its.toArray[i]? = some v, fun i h => h.IsTupleIter it a i ∧ h.IsTuple a its.toArray, ?_, ⟨st, pt⟩, fun e he hq => ?_, fun j u hu => ?_, fun j h z => z.1⟩
    · have D := Draws.tuple (prog := X.prog) (w := X.w) (A := X.A.in1) hh it a hne its.toArray
      rw [show its.toArray.size = xs.length by simp; omega] at D
      exact D
    · obtain ⟨old, j, hq⟩ := hq
      intro hm
      rcases List.mem_cons.mp hm with z | z
      · subst z
        obtain ⟨o, e', c, _⟩ := id st
        have hq' : s.heap.get? e = _ := hq
        rw [e'] at hq'
        cases hq'
        injection c with q
        exact absurd q (by decide)
      · have z' := List.mem_singleton.mp z
        subst z'
        obtain ⟨o, e', c, _⟩ := pt
        have hq' : s.heap.get? e = _ := hq
        rw [e'] at hq'
        cases hq'
        injection c with q
        exact absurd q (by decide)
    · have hu' : its[j]? = some u := by simpa using hu
      have hj : j < its.length := (List.getElem?_eq_some_iff.mp hu').1
      have hx : xs[j]? = some (xs[j]'(by omega)) := List.getElem?_eq_getElem (by omega)
      obtain ⟨u', h1, h2⟩ := rv.get hx
      rw [hu'] at h1
      cases h1
      exact ⟨_, h2, hx⟩
theorem src_str {P : Program} {w : World} {K : PySem.W.Frag} {it : Addr} {z : Str} {t : Tok} :
    Src P w K it (fun _ => True) z.cps.size (fun i _ x => ∃ c, z.cps[i]? = some c ∧ x = .str ⟨#[c]⟩) (fun i h => h.IsStrIter it (strIterType z) z t i) where
  live := fun i h st => by
    obtain ⟨o, e, c, d⟩ := st
    exact ⟨o, e, fun v z => by rw [d] at z; cases z⟩
  keep := fun i h h' st k => by
    obtain ⟨o, e, r⟩ := st
    exact ⟨o, k o e, r⟩
  draw := by
    intro X hP hw hK pins σ H s i I hn hG st hh
    subst hP hw hK
    refine ⟨[it], _, _, Draws.text (prog := X.prog) (w := X.w) (A := X.A.in1) hh it z t, st, fun e he hq hm => ?_, fun j u hu => ?_, fun j h z => z⟩
    · obtain ⟨old, j, hq⟩ := hq
      have z' := List.mem_singleton.mp hm
      subst z'
      obtain ⟨o, e', c, _⟩ := id st
      have hq' : s.heap.get? e = _ := hq
      rw [e'] at hq'
      cases hq'
      have c' : strIterType z = "enumerate" := by injection c with q; exact q.symm
      unfold strIterType at c'
      split at c' <;> exact absurd c' (by decide)
    · obtain ⟨c, u', h1, h2⟩ := hu
      exact ⟨.str ⟨#[c]⟩, ⟨u', h2⟩, c, h1, rfl⟩
def iEnumT (K : PySem.W.Frag) (ta : TA) : TI := fun σ H R => ta σ H fun vs H1 => ∃ a xs, vs = [.ref a] ∧ SqT K H1 a xs ∧ R (ItE (fun H => SqT K H a xs) xs.length fun i _ x => xs[i]? = some x) H1
def iEnumS (ta : TA) : TI := fun σ H R => ta σ H fun vs H1 => ∃ z, vs = [.str z] ∧ R (ItE (fun _ => True) z.cps.size fun i _ x => ∃ c, z.cps[i]? = some c ∧ x = .str ⟨#[c]⟩) H1
section
variable {X : Cx} {e : Expr} {ta : TA} {p pos tpos : Pos} {elts : List Expr} {kk : Nat}
theorem pi_enumT (hg : Gl X "enumerate") (hm : X.mg "enumerate" = none) (ha : PA X [e] ta) (hs : starEach [e] X.env = [(false, eval e X.env)] := by rfl) :
    PI X (.Tuple elts kk tpos) (.Call (.Name "enumerate" p) [e] [] pos) (iEnumT X.K ta) := by
  refine ⟨fun pins s σ H R I h => Call_ (ld_blt I hg hm boot_enumerate (PyProof.Rows.callWith_type1 (thn (ha.run pos pins s σ H _ I h) fun us s1 hh => ?_) hs rfl))⟩
  obtain ⟨vs, H1, I1, r1, a, xs, rfl, hq, q⟩ := hh
  obtain ⟨u, rfl, rx⟩ := vals1 r1
  cases rx
  obtain ⟨its, rv, pt, hz⟩ := I1.tuple hq
  refine enum_call1 (begins_tuple a its.toArray) pt fun h' he hit hk => wpAny_pyIter_enum he ?_
  have I2 : Inv X pins σ H1 { s1 with heap := h' } := I1.kept (t' := s1.toks) hk
  refine ⟨s1.heap.objs.size + 1, [s1.heap.objs.size + 1, s1.heap.objs.size], _, _, H1, rfl, I2, turn_E src_tup, ⟨⟨.none, he⟩, ⟨_, hit, rfl, rfl⟩, Nat.succ_ne_self _⟩, fun b hb => ?_, q⟩
  have hle : s1.heap.objs.size ≤ b := by
    rcases List.mem_cons.mp hb with z | z
    · exact z ▸ Nat.le_add_right _ _
    · exact (List.mem_singleton.mp z) ▸ Nat.le_refl _
  exact I1.fpOk hle (I1.hok.fresh hle)
theorem pi_enumS (hg : Gl X "enumerate") (hm : X.mg "enumerate" = none) (ha : PA X [e] ta) (hs : starEach [e] X.env = [(false, eval e X.env)] := by rfl) :
    PI X (.Tuple elts kk tpos) (.Call (.Name "enumerate" p) [e] [] pos) (iEnumS ta) := by
  refine ⟨fun pins s σ H R I h => Call_ (ld_blt I hg hm boot_enumerate (PyProof.Rows.callWith_type1 (thn (ha.run pos pins s σ H _ I h) fun us s1 hh => ?_) hs rfl))⟩
  obtain ⟨vs, H1, I1, r1, z, rfl, q⟩ := hh
  obtain ⟨u, rfl, rx⟩ := vals1 r1
  obtain ⟨t, rfl⟩ := rx
  refine enum_call1 (begins_text z t) trivial fun h' he hit hk => wpAny_pyIter_enum he ?_
  have I2 : Inv X pins σ H1 { s1 with heap := h' } := I1.kept (t' := s1.toks) hk
  refine ⟨s1.heap.objs.size + 1, [s1.heap.objs.size + 1, s1.heap.objs.size], _, _, H1, rfl, I2, turn_E src_str, ⟨⟨.none, he⟩, ⟨_, hit, rfl, rfl⟩, Nat.succ_ne_self _⟩, fun b hb => ?_, q⟩
  have hle : s1.heap.objs.size ≤ b := by
    rcases List.mem_cons.mp hb with z | z
    · exact z ▸ Nat.le_add_right _ _
    · exact (List.mem_singleton.mp z) ▸ Nat.le_refl _
  exact I1.fpOk hle (I1.hok.fresh hle)
end
end Dk

/-! the layer: what grows, steps of readings -/
namespace Dk
open PySem PySem.Spec PyProof.Rows L2

/-! ### what is known grows -/
abbrev A0 : Addr → Prop := fun _ => False
abbrev Ex := Same
/-- G: what is known for good; H: the heap; A: what may change -/
structure Gr (A : Addr → Prop) (G H G' H' : Hp) : Prop where
  gg : Ex G G'
  gh : Ex G' H'
  hh : ∀ b o, ¬ A b → H b = some o → H' b = some o
  th : ∀ b o, H b = some o → ∃ o', H' b = some o'
  nw : ∀ b o, H b = some o → G b = none → G' b = none
section
variable {A : Addr → Prop} {G H G1 H1 G2 H2 : Hp} {p q m : Addr} {o o' u : HO}
theorem Gr.refl (g : Ex G H) : Gr A G H G H := ⟨Same.refl G, g, fun _ _ _ h => h, fun _ o h => ⟨o, h⟩, fun _ _ _ h => h⟩
theorem Gr.trans (a : Gr A G H G1 H1) (b : Gr A G1 H1 G2 H2) : Gr A G H G2 H2 :=
  ⟨a.gg.trans b.gg, b.gh, fun x o n h => b.hh x o n (a.hh x o n h), fun x o h => by
    obtain ⟨o1, h1⟩ := a.th x o h
    exact b.th x o1 h1, fun x o h n => by
    obtain ⟨o1, h1⟩ := a.th x o h
    exact b.nw x o1 h1 (a.nw x o h n)⟩
theorem Gr.wide {B : Addr → Prop} (a : Gr A G H G1 H1) (h : ∀ x, A x → B x) : Gr B G H G1 H1 :=
  ⟨a.gg, a.gh, fun x o n => a.hh x o fun z => n (h x z), a.th, a.nw⟩
theorem Gr.of0 (a : Gr A0 G H G1 H1) : Gr A G H G1 H1 := a.wide fun _ z => z.elim
theorem Gr.same (a : Gr A0 G H G1 H1) : Ex H H1 := fun b o h => a.hh b o (fun z => z) h
/-- a new object, known for good -/
theorem Gr.new (g : Ex G H) (hp : H p = none) : Gr A G H (upd G p o) (upd H p o) where
  gg := fun b x e => by
    rw [upd_ne (ne_of_none e (g.free hp))]
    exact e
  gh := fun b x e => by
    by_cases hb : b = p
    · subst hb
      rw [upd_same] at e ⊢
      exact e
    · rw [upd_ne hb] at e ⊢
      exact g b x e
  hh := fun b x _ e => by
    rw [upd_ne (ne_of_none e hp)]
    exact e
  th := fun b x e => ⟨x, by
    rw [upd_ne (ne_of_none e hp)]
    exact e⟩
  nw := fun b x e n => by
    rw [upd_ne (ne_of_none e hp)]
    exact n
/-- a new object of our own -/
theorem Gr.own (g : Ex G H) (hp : H p = none) : Gr A G H G (upd H p o) where
  gg := Same.refl G
  gh := fun b x e => by
    rw [upd_ne (ne_of_none e (g.free hp))]
    exact g b x e
  hh := fun b x _ e => by
    rw [upd_ne (ne_of_none e hp)]
    exact e
  th := fun b x e => ⟨x, by
    rw [upd_ne (ne_of_none e hp)]
    exact e⟩
  nw := fun b x e n => n
/-- an object of our own is written -/
theorem Gr.mut (t : Gr A G H G1 H1) (h0 : A p ∨ H p = none) (hp : G1 p = none) : Gr A G H G1 (upd H1 p o) where
  gg := t.gg
  gh := fun b x e => by
    rw [upd_ne (ne_of_none e hp)]
    exact t.gh b x e
  hh := fun b x n e => by
    have hb : b ≠ p := fun z => by
      subst z
      rcases h0 with h0 | h0
      · exact n h0
      · rw [h0] at e
        cases e
    rw [upd_ne hb]
    exact t.hh b x n e
  th := fun b x e => by
    by_cases hb : b = p
    · exact ⟨o, by rw [hb, upd_same]⟩
    · rw [upd_ne hb]
      exact t.th b x e
  nw := t.nw
/-- an object of our own is known for good from here on -/
theorem Gr.give (t : Gr A G H G1 H1) (h0 : H p = none) (hp : H1 p = some o) (hn : G1 p = none) : Gr A G H (upd G1 p o) H1 where
  gg := fun b x e => by
    have z := t.gg b x e
    rw [upd_ne (ne_of_none z hn)]
    exact z
  gh := fun b x e => by
    by_cases hb : b = p
    · subst hb
      rw [upd_same] at e
      cases e
      exact hp
    · rw [upd_ne hb] at e
      exact t.gh b x e
  hh := t.hh
  th := t.th
  nw := fun b x e n => by
    have hb : b ≠ p := ne_of_none e h0
    rw [upd_ne hb]
    exact t.nw b x e n
theorem Gr.g0 (t : Gr A G H G1 H1) : Ex G H1 := t.gg.trans t.gh
theorem ne_g (h : G p = some o) (n : G q = none) : p ≠ q := ne_of_none h n
end

/-! ### what is read at an address -/
theorem SqL.up {K : PySem.W.Frag} {G G' : Hp} {a : Addr} {xs : List V} (e : Ex G G') (h : SqL K G a xs) : SqL K G' a xs := e.seq h
theorem SqT.up {K : PySem.W.Frag} {G G' : Hp} {a : Addr} {xs : List V} (e : Ex G G') (h : SqT K G a xs) : SqT K G' a xs := by
  rcases h with (h | ⟨o, h⟩) | h
  · exact .inl (.inl (e _ _ h))
  · exact .inl (.inr ⟨o, e _ _ h⟩)
  · exact .inr h
theorem sqL {K : PySem.W.Frag} {H : Hp} {a : Addr} {xs : List V} (h : H a = some (.lst xs)) : SqL K H a xs := .inl (.inl h)
theorem sqT {K : PySem.W.Frag} {H : Hp} {a : Addr} {xs : List V} (h : H a = some (.tup xs)) : SqT K H a xs := .inl (.inl h)

/-! ### unions of rules -/
def rStr2 : R2 := fun x y H Q => ∃ i j, x = .str i ∧ y = .str j ∧ i.length + j.length ≤ sizeLine ∧ Q (.str (i ++ j)) H
def rAddU (K : PySem.W.Frag) : R2 := fun x y H Q => rI0 (fun i j => .int (i + j)) x y H Q ∨ (rStr2 x y H Q ∨ (rCat x y H Q ∨ rCatA K x y H Q))
def rInS1 : R2 := fun x y H Q => ∃ (c : Nat) (z : Str), x = .str ⟨#[c]⟩ ∧ y = .str z ∧ Q (.bl (decide (c ∈ z.cps.toList))) H
def rNotInS1 : R2 := fun x y H Q => ∃ (c : Nat) (z : Str), x = .str ⟨#[c]⟩ ∧ y = .str z ∧ Q (.bl (!decide (c ∈ z.cps.toList))) H
def rInU (K : PySem.W.Frag) : R2 := fun x y H Q => rInS1 x y H Q ∨ rIn K false x y H Q
def rNotInU (K : PySem.W.Frag) : R2 := fun x y H Q => rNotInS1 x y H Q ∨ rIn K true x y H Q
def rEqU (K : PySem.W.Frag) : R2 := fun x y H Q => rEq x y H Q ∨ rEqD K x y H Q
def rNeU (K : PySem.W.Frag) : R2 := fun x y H Q => rNe x y H Q ∨ rNeD K x y H Q
def rSlU (K : PySem.W.Frag) : V → Option Int → Option Int → Hp → VK → Prop := fun x lo hi H Q => rSlS x lo hi H Q ∨ (rSlL K x lo hi H Q ∨ rSlA K x lo hi H Q)
def rLenU (K : PySem.W.Frag) : List V → Hp → VK → Prop := fun xs H Q => ∃ x n, xs = [x] ∧ LenV K x H n ∧ Q (.int (n : Nat)) H
def rInt1 : List V → Hp → VK → Prop := fun xs H Q => (∃ i, xs = [.int i] ∧ Q (.int i) H) ∨ ∃ k, xs = [.bl k] ∧ Q (.int (if k then 1 else 0)) H
def rMax : List V → Hp → VK → Prop := fun xs H Q => ∃ i j, xs = [.int i, .int j] ∧ Q (.int (if j > i then j else i)) H
def rMin : List V → Hp → VK → Prop := fun xs H Q => ∃ i j, xs = [.int i, .int j] ∧ Q (.int (if j < i then j else i)) H
def rListU (K : PySem.W.Frag) : List V → Hp → VK → Prop := fun xs H Q => ∃ p ys, xs = [.ref p] ∧ (SqL K H p ys ∨ SqT K H p ys) ∧ ∀ l, H l = none → Q (.ref l) (upd H l (.lst ys))
def rTupU (K : PySem.W.Frag) : List V → Hp → VK → Prop := fun xs H Q => ∃ p ys, xs = [.ref p] ∧ ((SqL K H p ys ∧ ∀ l, H l = none → Q (.ref l) (upd H l (.tup ys))) ∨ (SqT K H p ys ∧ Q (.ref p) H))
def rJoin (K : PySem.W.Frag) : V → List V → Hp → VK → Prop := fun x xs H Q => ∃ a p, ∃ ys : List Str, x = .str a ∧ xs = [.ref p] ∧ (SqL K H p (ys.map V.str) ∨ SqT K H p (ys.map V.str)) ∧
  (ys.map (·.length)).sum + ys.length * a.length ≤ 16777216 ∧ Q (.str (Txt.join a ys)) H
def rIsN1 : R2 := fun x y H Q => y = .non ∧ Q (.bl (decide (x = .non))) H
def rNotN1 : R2 := fun x y H Q => y = .non ∧ Q (.bl (!decide (x = .non))) H
def rDivW : R2 := rI CDivW fun i j => .int (i / j)
def rModP : R2 := rI (fun _ j => 0 < j) fun i j => .int (i % j)
def rMulW : R2 := rI CMulW fun i j => .int (i * j)
section
variable {X : Cx}
theorem op_addU : OpR X (binaryOp .Add) (rAddU X.K) := op_add.or (op_add_str.or (op_cat.or op_catA))
theorem op_inU : OpR X (compareOp .In) (rInU X.K) := op_in_sign.or op_in_seq
theorem op_notInU : OpR X (compareOp .NotIn) (rNotInU X.K) := op_notIn_sign.or op_notIn_seq
theorem op_eqU (hu : X.A.units + 64 < cLine) : OpR X (compareOp .Eq) (rEqU X.K) := op_eq.or (op_eqD hu)
theorem op_neU (hu : X.A.units + 64 < cLine) : OpR X (compareOp .NotEq) (rNeU X.K) := op_ne.or (op_neD hu)
theorem sl_U : SlR X (rSlU X.K) := sl_str.or (sl_list.or sl_tupA)
theorem call_lenU : CallR X (.builtin "len") (rLenU X.K) := call_len
theorem call_intU : CallR X (.type "int") rInt1 := call_int1
theorem call_maxU (hc : X.calm = true) : CallR X (.builtin "max") rMax := call_max2 hc
theorem call_minU (hc : X.calm = true) : CallR X (.builtin "min") rMin := call_min2 hc
theorem call_listU : CallR X (.type "list") (rListU X.K) := call_list_of
theorem call_tupU : CallR X (.type "tuple") (rTupU X.K) := call_tuple_of
theorem op_isU : OpR X (compareOp .Is) rIsN1 := op_isN
theorem op_isnotU : OpR X (compareOp .IsNot) rNotN1 := op_notN
theorem op_divW : OpR X (binaryOp .FloorDiv) rDivW := op_fdivW
theorem op_modP : OpR X (binaryOp .Mod) rModP := op_mod
theorem op_mulWW : OpR X (binaryOp .Mult) rMulW := op_mulW
end

/-! within a comprehension -/
section
variable {X : Cx} {K : PySem.W.Frag}
theorem k_add (h : X.K = K) : OpR X (binaryOp .Add) (rAddU K) := h ▸ op_addU
theorem k_in (h : X.K = K) : OpR X (compareOp .In) (rInU K) := h ▸ op_inU
theorem k_notIn (h : X.K = K) : OpR X (compareOp .NotIn) (rNotInU K) := h ▸ op_notInU
theorem k_ix (h : X.K = K) : IxR X (rIx K) := h ▸ ix_seq
theorem k_sl (h : X.K = K) : SlR X (rSlU K) := h ▸ sl_U
theorem k_len (h : X.K = K) : CallR X (.builtin "len") (rLenU K) := h ▸ call_lenU
theorem k_list (h : X.K = K) : CallR X (.type "list") (rListU K) := h ▸ call_listU
theorem k_tup (h : X.K = K) : CallR X (.type "tuple") (rTupU K) := h ▸ call_tupU
theorem k_isi (h : X.K = K) : CallR X (.builtin "isinstance") (rIsi K) := h ▸ call_isi
end
/-! ### steps -/
section
variable {K : PySem.W.Frag} {σ : L2.St} {H H' : Hp} {Q : VK} {v x y : V} {ta tb te : TE} {i j : Int} {D : Ends} {t u : TS} {tt tu : TT} {QB : Bool → Hp → Prop} {ar : TA} {QL : List V → Hp → Prop}
theorem r_var {n : Nat} (h : σ[n]? = some (some v)) (q : Q v H) : tVar n σ H Q := ⟨v, h, q⟩
theorem r_c (q : Q v H) : tC v σ H Q := q
theorem r_op {r : R2} (h : ta σ H fun x H1 => tb σ H1 fun y H2 => r x y H2 Q) : tOp r ta tb σ H Q := h
theorem r_un {r : V → Hp → VK → Prop} (h : ta σ H fun x H1 => r x H1 Q) : tUn r ta σ H Q := h
theorem r_I0 {g : Int → Int → V} (q : Q (g i j) H) : rI0 g (.int i) (.int j) H Q := ⟨i, j, rfl, rfl, q⟩
theorem r_I {C : Int → Int → Prop} {g : Int → Int → V} (c : C i j) (q : Q (g i j) H) : rI C g (.int i) (.int j) H Q := ⟨i, j, rfl, rfl, c, q⟩
theorem r_mulW (c : CMulW i j) (q : Q (.int (i * j)) H) : rMulW (.int i) (.int j) H Q := ⟨i, j, rfl, rfl, c, q⟩
theorem r_divW (c : CDivW i j) (q : Q (.int (i / j)) H) : rDivW (.int i) (.int j) H Q := ⟨i, j, rfl, rfl, c, q⟩
theorem r_modP (c : 0 < j) (q : Q (.int (i % j)) H) : rModP (.int i) (.int j) H Q := ⟨i, j, rfl, rfl, c, q⟩
theorem r_U {g : Int → V} (q : Q (g i) H) : rU g (.int i) H Q := ⟨i, rfl, q⟩
theorem r_addI (q : Q (.int (i + j)) H) : rAddU K (.int i) (.int j) H Q := .inl ⟨i, j, rfl, rfl, q⟩
theorem r_addS {a b : Str} (h : a.length + b.length ≤ sizeLine) (q : Q (.str (a ++ b)) H) : rAddU K (.str a) (.str b) H Q := .inr (.inl ⟨a, b, rfl, rfl, h, q⟩)
theorem r_addL {p q : Addr} {xs ys : List V} (hp : H p = some (.lst xs)) (hq : H q = some (.lst ys)) (hz : xs.length + ys.length ≤ sizeLine) (k : ∀ l, H l = none → Q (.ref l) (upd H l (.lst (xs ++ ys)))) : rAddU K (.ref p) (.ref q) H Q :=
  .inr (.inr (.inl ⟨p, q, xs, ys, rfl, rfl, hp, hq, hz, k⟩))
theorem r_sub (q : Q (.int (i - j)) H) : rI0 (fun i j => .int (i - j)) (.int i) (.int j) H Q := ⟨i, j, rfl, rfl, q⟩
theorem r_inS {c : Nat} {z : Str} (q : Q (.bl (decide (c ∈ z.cps.toList))) H) : rInU K (.str ⟨#[c]⟩) (.str z) H Q := .inl ⟨c, z, rfl, rfl, q⟩
theorem r_niS {c : Nat} {z : Str} (q : Q (.bl (!decide (c ∈ z.cps.toList))) H) : rNotInU K (.str ⟨#[c]⟩) (.str z) H Q := .inl ⟨c, z, rfl, rfl, q⟩
theorem r_eq (h : scal x y = true) (q : Q (.bl (decide (x = y))) H) : rEqU K x y H Q := .inl ⟨h, q⟩
theorem r_ne (h : scal x y = true) (q : Q (.bl (!decide (x = y))) H) : rNeU K x y H Q := .inl ⟨h, q⟩
theorem r_isN (q : Q (.bl (decide (x = .non))) H) : rIsN1 x .non H Q := ⟨rfl, q⟩
theorem r_notN (q : Q (.bl (!decide (x = .non))) H) : rNotN1 x .non H Q := ⟨rfl, q⟩
theorem r_ixL {p : Addr} {xs : List V} (h : SqL K H p xs) (a : atI xs i = some v) (q : Q v H) : rIx K (.ref p) (.int i) H Q := .inl ⟨p, xs, i, v, rfl, rfl, h, a, q⟩
theorem r_ixT {p : Addr} {xs : List V} (h : SqT K H p xs) (a : atI xs i = some v) (q : Q v H) : rIx K (.ref p) (.int i) H Q := .inr (.inl ⟨p, xs, i, v, rfl, rfl, h, a, q⟩)
theorem r_ixS {z : Str} {c : Nat} (h : z.length ≤ sizeLine) (a : atI z.cps.toList i = some c) (q : Q (.str ⟨#[c]⟩) H) : rIx K (.str z) (.int i) H Q := .inr (.inr ⟨z, i, c, rfl, rfl, h, a, q⟩)
theorem r_slS {z : Str} {lo hi : Option Int} (h : z.length ≤ sizeLine) (q : Q (.str (cutS z lo hi)) H) : rSlU K (.str z) lo hi H Q := .inl ⟨z, rfl, h, q⟩
theorem r_slL {p : Addr} {xs : List V} {lo hi : Option Int} (h : SqL K H p xs) (q : ∀ l, H l = none → Q (.ref l) (upd H l (.lst (cutV xs lo hi)))) : rSlU K (.ref p) lo hi H Q := .inr (.inl ⟨p, xs, rfl, h, q⟩)
theorem r_lenS {z : Str} (h : z.length ≤ sizeLine) (q : Q (.int (z.length : Nat)) H) : rLenU K [.str z] H Q := ⟨_, _, rfl, ⟨h, rfl⟩, q⟩
theorem r_lenL {p : Addr} {xs : List V} (h : SqL K H p xs) (q : Q (.int (xs.length : Nat)) H) : rLenU K [.ref p] H Q := ⟨_, _, rfl, .inl ⟨xs, h, rfl⟩, q⟩
theorem r_lenT {p : Addr} {xs : List V} (h : SqT K H p xs) (q : Q (.int (xs.length : Nat)) H) : rLenU K [.ref p] H Q := ⟨_, _, rfl, .inr ⟨xs, h, rfl⟩, q⟩
theorem r_int (q : Q (.int i) H) : rInt1 [.int i] H Q := .inl ⟨i, rfl, q⟩
theorem r_max (q : Q (.int (max i j)) H) : rMax [.int i, .int j] H Q := ⟨i, j, rfl, by
  have e : (if j > i then j else i) = max i j := by omega
  rw [e]
  exact q⟩
theorem r_min (q : Q (.int (min i j)) H) : rMin [.int i, .int j] H Q := ⟨i, j, rfl, by
  have e : (if j < i then j else i) = min i j := by omega
  rw [e]
  exact q⟩
theorem r_listL {p : Addr} {xs : List V} (h : SqL K H p xs) (q : ∀ l, H l = none → Q (.ref l) (upd H l (.lst xs))) : rListU K [.ref p] H Q := ⟨p, xs, rfl, .inl h, q⟩
theorem r_listT {p : Addr} {xs : List V} (h : SqT K H p xs) (q : ∀ l, H l = none → Q (.ref l) (upd H l (.lst xs))) : rListU K [.ref p] H Q := ⟨p, xs, rfl, .inr h, q⟩
theorem r_tupL {p : Addr} {xs : List V} (h : SqL K H p xs) (q : ∀ l, H l = none → Q (.ref l) (upd H l (.tup xs))) : rTupU K [.ref p] H Q := ⟨p, xs, rfl, .inl ⟨h, q⟩⟩
theorem r_tupT {p : Addr} {xs : List V} (h : SqT K H p xs) (q : Q (.ref p) H) : rTupU K [.ref p] H Q := ⟨p, xs, rfl, .inr ⟨h, q⟩⟩
theorem r_isi {n a : String} {b : Bool} (ty : TyX K H x (.type a)) (e : kitB a n = some b) (q : Q (.bl b) H) : rIsi K [x, .ty n] H Q := ⟨x, .ty n, .type a, .type n, b, rfl, .ty n, ty, kit_ty e, q⟩
theorem r_nil (q : QL [] H) : tNil σ H QL := q
theorem r_cons (h : ta σ H fun x H1 => ar σ H1 fun xs H2 => QL (x :: xs) H2) : tCons ta ar σ H QL := h
theorem r_tup (h : ar σ H fun xs H1 => xs.length ≤ sizeLine ∧ ∀ p, H1 p = none → Q (.ref p) (upd H1 p (.tup xs))) : tTup ar σ H Q := h
theorem r_lst (h : ar σ H fun xs H1 => xs.length ≤ sizeLine ∧ ∀ p, H1 p = none → Q (.ref p) (upd H1 p (.lst xs))) : tLst ar σ H Q := h
theorem r_small {xs : List V} {P : Prop} (h : xs.length ≤ 1000) (k : P) : xs.length ≤ sizeLine ∧ P := ⟨Nat.le_of_lt (small1000 h), k⟩
theorem r_CB {r : List V → Hp → VK → Prop} (h : ar σ H fun vs H1 => r vs H1 Q) : tCB r ar σ H Q := h
theorem r_call {sp : Sp} {dvs : List V} {E : XK} (h : ar σ H fun vs H1 => sp (vs ++ dvs) H1 Q E) : tCall sp dvs E ar σ H Q := h
theorem r_callS {sp : Sp} {E : L2.St → XK} (h : ar σ H fun vs H1 => sp vs H1 Q (E σ)) : tCallS sp E ar σ H Q := h
theorem r_bl {b : Bool} (q : QB b H) : ∃ k, V.bl b = .bl k ∧ QB k H := ⟨b, rfl, q⟩
theorem r_test (h : te σ H fun x H1 => ∃ k, x = .bl k ∧ QB k H1) : tTest te σ H QB := h
theorem r_B (h : te σ H fun x H1 => ∃ k, x = .bl k ∧ QB k H1) : tB te σ H QB := h
theorem r_and (h : tt σ H fun c H1 => if c = true then tu σ H1 QB else QB false H1) : tAnd tt tu σ H QB := h
theorem r_andB {b1 b2 : Bool} (h1 : ∀ QB : Bool → Hp → Prop, QB b1 H → tt σ H QB) (h2 : b1 = true → ∀ QB : Bool → Hp → Prop, QB b2 H → tu σ H QB) (k : QB (b1 && b2) H) : tAnd tt tu σ H QB := by
  refine h1 _ ?_
  cases b1 with
  | true => exact h2 rfl _ k
  | false => exact k
theorem r_orB {b1 b2 : Bool} (h1 : ∀ QB : Bool → Hp → Prop, QB b1 H → tt σ H QB) (h2 : b1 = false → ∀ QB : Bool → Hp → Prop, QB b2 H → tu σ H QB) (k : QB (b1 || b2) H) : tOr tt tu σ H QB := by
  refine h1 _ ?_
  cases b1 with
  | true => exact k
  | false => exact h2 rfl _ k
theorem r_or (h : tt σ H fun c H1 => if c = true then QB true H1 else tu σ H1 QB) : tOr tt tu σ H QB := h
theorem r_not (h : tt σ H fun c H1 => QB (!c) H1) : tNot tt σ H QB := h
theorem r_andV (h : ta σ H fun x H1 => ∃ c, x = .bl c ∧ if c = true then tb σ H1 Q else Q (.bl false) H1) : tAndV ta tb σ H Q := h
theorem r_orV (h : ta σ H fun x H1 => ∃ c, x = .bl c ∧ if c = true then Q (.bl true) H1 else tb σ H1 Q) : tOrV ta tb σ H Q := h
theorem r_notV (h : ta σ H fun x H1 => ∃ c, x = .bl c ∧ Q (.bl (!c)) H1) : tNotV ta σ H Q := h
theorem r_ifE (h : tt σ H fun c H1 => if c = true then ta σ H1 Q else tb σ H1 Q) : tIf tt ta tb σ H Q := h
theorem r_blv {b : Bool} {P : Bool → Prop} (q : P b) : ∃ c, V.bl b = .bl c ∧ P c := ⟨b, rfl, q⟩
theorem r_sl {r : V → Option Int → Option Int → Hp → VK → Prop} {tl th : TO} (h : te σ H fun x H1 => tl σ H1 fun l H2 => th σ H2 fun u H3 => r x l u H3 Q) : tSl r te tl th σ H Q := h
theorem r_seq (h : t { D with nx := u D } σ H) : tSeq t u D σ H := h
theorem r_next (q : D.nx σ H) : tNext D σ H := q
theorem r_asg {g : TG} (h : te σ H fun x H1 => g x σ H1 D.nx) : tAsg te g D σ H := h
theorem r_gname {n : Nat} {N : L2.St → Hp → Prop} (q : N (σ.set n (some v)) H) : gName n v σ H N := q
theorem r_ret (h : te σ H D.rt) : tRet te D σ H := h
theorem r_retN (h : D.rt .non H) : tRetN D σ H := h
theorem r_drop (h : te σ H fun _ H1 => D.nx σ H1) : tDrop te D σ H := h
theorem r_ifS (h : tt σ H fun b H1 => if b = true then t D σ H1 else u D σ H1) : tIfS tt t u D σ H := h
theorem r_app {p : Addr} {xs : List V} (h : H p = some (.lst xs)) (z : xs.length < sizeLine) (q : Q .non (upd H p (.lst (xs ++ [v])))) : rAppend (.ref p) [v] H Q := ⟨p, xs, v, rfl, rfl, h, z, q⟩
theorem r_bm {T : String} {r : V → List V → Hp → VK → Prop} (h : te σ H fun x H1 => tyV K T x H1 ∧ ar σ H1 fun xs H2 => r x xs H2 Q) : tBM K T r te ar σ H Q := h
theorem r_tyL {p : Addr} {xs : List V} {P : Prop} (h : SqL K H p xs) (k : P) : tyV K "list" (.ref p) H ∧ P := ⟨.inl ⟨rfl, xs, h⟩, k⟩
theorem r_setL {p : Addr} {xs : List V} {n : Nat} {N : Hp → Prop} (h : H p = some (.lst xs)) (a : ixN xs.length i = some n) (q : N (upd H p (.lst (xs.set n v)))) : rSetL (.ref p) (.int i) v H N := ⟨p, xs, i, n, rfl, rfl, h, a, q⟩
theorem r_gsub {ti : TE} {to : TE} {ts : TSet} {N : L2.St → Hp → Prop} (h : to σ H fun o H1 => ti σ H1 fun i H2 => ts o i v H2 fun H3 => N σ H3) : gSub to ti ts v σ H N := h
theorem r_ite {c A B : Prop} [Decidable c] (h1 : c → A) (h2 : ¬ c → B) : if decide c = true then A else B := by
  by_cases h : c
  · rw [if_pos (decide_eq_true h)]
    exact h1 h
  · rw [if_neg (by rw [decide_eq_false h]; decide)]
    exact h2 h
theorem r_iteN {c A B : Prop} [Decidable c] (h1 : ¬ c → A) (h2 : c → B) : if (!decide c) = true then A else B := by
  by_cases h : c
  · rw [if_neg (by rw [decide_eq_true h]; decide)]
    exact h2 h
  · rw [if_pos (by rw [decide_eq_false h]; rfl)]
    exact h1 h
theorem r_iteB {b : Bool} {A B : Prop} (h1 : b = true → A) (h2 : b = false → B) : if b = true then A else B := by
  cases b with
  | true => exact h1 rfl
  | false => exact h2 rfl
theorem r_itt {A B : Prop} (h : A) : if true = true then A else B := by
  rw [if_pos rfl]
  exact h
theorem r_iff {A B : Prop} (h : B) : if false = true then A else B := by
  rw [if_neg Bool.false_ne_true]
  exact h
theorem r_ittD {b : Bool} {A B : Prop} (e : b = true) (h : A) : if b = true then A else B := by
  rw [if_pos e]
  exact h
theorem r_iffD {b : Bool} {A B : Prop} (e : b = false) (h : B) : if b = true then A else B := by
  rw [e]
  exact r_iff h
theorem r_ittN {A B : Prop} (h : A) : if (!false) = true then A else B := r_itt h
theorem r_iffN {A B : Prop} (h : B) : if (!true) = true then A else B := r_iff h
end

/-! ### growth, further -/
section
variable {A : Addr → Prop} {G H G1 H1 G2 H2 : Hp} {p q m : Addr} {o o' u : HO} {K : PySem.W.Frag} {xs : List V} {Q : VK}
theorem Gr.ex (g : Ex G H) (e : Ex H H1) : Gr A G H G H1 := ⟨Same.refl G, g.trans e, fun b o _ h => e b o h, fun b o h => ⟨o, e b o h⟩, fun _ _ _ n => n⟩
/-- a step of one that leaves everything as it was -/
theorem Gr.then (t : Gr A G H G1 H1) (e : Ex H1 H2) : Gr A G H G1 H2 := t.trans (.ex t.gh e)
theorem Gr.none_of (t : Gr A G H G1 H1) (h : H p = some o) (n : G p = none) : G1 p = none := t.nw p o h n
/-- a new tuple, known for good -/
theorem a_tup (g : Ex G H) (hl : xs.length ≤ 1000) (k : ∀ p G' H', Gr A0 G H G' H' → G' p = some (.tup xs) → H p = none → Q (.ref p) H') :
    xs.length ≤ sizeLine ∧ ∀ p, H p = none → Q (.ref p) (upd H p (.tup xs)) :=
  ⟨Nat.le_of_lt (small1000 hl), fun p hp => k p _ _ (Gr.new g hp) upd_same hp⟩
theorem a_lst (g : Ex G H) (hl : xs.length ≤ 1000) (k : ∀ p G' H', Gr A0 G H G' H' → G' p = some (.lst xs) → H p = none → Q (.ref p) H') :
    xs.length ≤ sizeLine ∧ ∀ p, H p = none → Q (.ref p) (upd H p (.lst xs)) :=
  ⟨Nat.le_of_lt (small1000 hl), fun p hp => k p _ _ (Gr.new g hp) upd_same hp⟩
/-- a new list of our own -/
theorem a_own (g : Ex G H) (hl : xs.length ≤ 1000) (k : ∀ p H', Gr A0 G H G H' → H' p = some (.lst xs) → H p = none → G p = none → Q (.ref p) H') :
    xs.length ≤ sizeLine ∧ ∀ p, H p = none → Q (.ref p) (upd H p (.lst xs)) :=
  ⟨Nat.le_of_lt (small1000 hl), fun p hp => k p _ (Gr.own g hp) upd_same hp (g.free hp)⟩
theorem n_tup (g : Ex G H) (k : ∀ p G' H', Gr A0 G H G' H' → G' p = some (.tup xs) → H p = none → Q (.ref p) H') :
    ∀ p, H p = none → Q (.ref p) (upd H p (.tup xs)) := fun p hp => k p _ _ (Gr.new g hp) upd_same hp
theorem n_lst (g : Ex G H) (k : ∀ p G' H', Gr A0 G H G' H' → G' p = some (.lst xs) → H p = none → Q (.ref p) H') :
    ∀ p, H p = none → Q (.ref p) (upd H p (.lst xs)) := fun p hp => k p _ _ (Gr.new g hp) upd_same hp
theorem n_own (g : Ex G H) (k : ∀ p H', Gr A0 G H G H' → H' p = some (.lst xs) → H p = none → G p = none → Q (.ref p) H') :
    ∀ p, H p = none → Q (.ref p) (upd H p (.lst xs)) := fun p hp => k p _ (Gr.own g hp) upd_same hp (g.free hp)
end
/-! ### raising a class of one field -/
section
variable {K : PySem.W.Frag} {σ : L2.St} {H : Hp} {C : Addr} {f : Str} {v : V} {W : XK}
/-- the promise of its __init__ -/
def spInit1 (C : Addr) (f : Str) : Sp := fun vs H Q _ => ∃ (a : Addr) (v : V), vs = [.ref a, v] ∧ H a = some (exo a C none) ∧
  ∀ dx, H dx = none → dx ≠ a → Q .non (upd (upd H dx (exd dx [(f, v)])) a (exo a C (some dx)))
theorem r_raise1 (q : ∀ d, H d = none → W (.ref C) (some d) (upd H d (.xd [(f, v)]))) :
    ([v] : List V).length ≤ 1000 ∧ ∀ a, H a = none → spInit1 C f (.ref a :: ([v] ++ [])) (upd H a (exo a C none))
      (fun v H2 => v = .non ∧ ∃ (d : Addr) (fs : List (Str × V)), H2 a = some (exo a C (some d)) ∧ H2 d = some (exd d fs) ∧ H d = none ∧ W (.ref C) (some d) (upd (del H2 a) d (.xd fs))) (fun _ _ _ => False) := by
  refine ⟨by show 1 ≤ 1000; decide, fun a ha => ⟨a, v, rfl, upd_same, fun dx hdx hne => ⟨rfl, dx, [(f, v)], upd_same, ?_, ?_, ?_⟩⟩⟩
  · rw [upd_ne hne]
    exact upd_same
  · rw [upd_ne hne] at hdx
    exact hdx
  · rw [upd_ne hne] at hdx
    have e : upd (del (upd (upd (upd H a (exo a C none)) dx (exd dx [(f, v)])) a (exo a C (some dx))) a) dx (.xd [(f, v)]) = upd H dx (.xd [(f, v)]) := by
      funext b
      by_cases h1 : b = dx
      · rw [h1, upd_same, upd_same]
      · rw [upd_ne h1, upd_ne h1]
        by_cases h2 : b = a
        · rw [h2, del_same, ha]
        · rw [del_ne h2, upd_ne h2, upd_ne h1, upd_ne h2]
    rw [e]
    exact q dx hdx
end
theorem Same.mut {H H' : Hp} {p : Addr} {o : HO} (e : Ex H H') (h : H p = none) : Ex H (upd H' p o) := fun a u ha => by
  rw [upd_ne (ne_of_none ha h)]
  exact e a u ha
theorem Same.new {H H' : Hp} {p : Addr} {o : HO} (e : Ex H H') (h : H' p = none) : Ex H (upd H' p o) := fun a u ha => by
  rw [upd_ne (ne_of_none (e a u ha) h)]
  exact e a u ha
/-! ### texts by their codes -/
abbrev cs (z : Str) : List Nat := z.cps.toList
theorem cs_ext {a b : Str} (h : cs a = cs b) : a = b := by
  cases a
  cases b
  exact congrArg Str.mk (Array.toList_inj.mp h)
theorem cs_len (z : Str) : (cs z).length = z.length := Array.length_toList
theorem cs_app (a b : Str) : cs (a ++ b) = cs a ++ cs b := Array.toList_append
theorem cs_join : ∀ ys : List Str, cs (Txt.join "" ys) = (ys.map cs).flatten := fun ys => by
  rw [TL.join_eq]
  induction ys with
  | nil => rfl
  | cons y r ih =>
    cases r with
    | nil => simp [PySem.Str.join, cs]
    | cons x r' =>
      have e : PySem.Str.join "" (y :: x :: r') = y ++ "" ++ PySem.Str.join "" (x :: r') := rfl
      rw [e, cs_app, cs_app, ih]
      have e0 : cs ("" : Str) = [] := by decide
      rw [e0, List.append_nil]
      rfl
theorem cut_list (l : List Nat) (a b : Nat) : (l.drop (min a l.length)).take (min b l.length - min a l.length) = (l.drop a).take (b - a) := by
  by_cases h : a ≤ l.length
  · rw [Nat.min_eq_left h]
    by_cases hb : b ≤ l.length
    · rw [Nat.min_eq_left hb]
    · have hb' : l.length ≤ b := by omega
      rw [Nat.min_eq_right hb', List.take_of_length_le (by rw [List.length_drop]; omega), List.take_of_length_le (by rw [List.length_drop]; omega)]
  · have ha' : l.length ≤ a := by omega
    rw [Nat.min_eq_right ha', List.drop_of_length_le (Nat.le_refl _), List.drop_of_length_le ha', List.take_nil, List.take_nil]
theorem cs_cut (z : Str) (a b : Nat) : cs (cutS z (some (a : Int)) (some (b : Int))) = ((cs z).drop a).take (b - a) := by
  show ((z.cps.toList.drop (HT.sIx z.length 0 (some (a : Int)))).take (HT.sIx z.length z.length (some (b : Int)) - HT.sIx z.length 0 (some (a : Int)))) = _
  rw [HT.sIx_nat, HT.sIx_nat, ← cs_len z]
  exact cut_list _ a b
theorem cs_from (z : Str) (a : Nat) : cs (cutS z (some (a : Int)) none) = (cs z).drop a := by
  show ((z.cps.toList.drop (HT.sIx z.length 0 (some (a : Int)))).take (HT.sIx z.length z.length none - HT.sIx z.length 0 (some (a : Int)))) = _
  rw [HT.sIx_nat, HT.sIx_none, ← cs_len z]
  have h := cut_list (cs z) a (cs z).length
  rw [Nat.min_self] at h
  rw [h, List.take_of_length_le (by rw [List.length_drop]; omega)]
theorem cs_to (z : Str) (b : Nat) : cs (cutS z none (some (b : Int))) = (cs z).take b := by
  show ((z.cps.toList.drop (HT.sIx z.length 0 none)).take (HT.sIx z.length z.length (some (b : Int)) - HT.sIx z.length 0 none)) = _
  rw [HT.sIx_nat, HT.sIx_none, ← cs_len z]
  have h := cut_list (cs z) 0 b
  rw [Nat.zero_min] at h
  exact h
theorem cut_len (z : Str) (lo hi : Option Int) : (cutS z lo hi).length ≤ z.length := cutS_length z lo hi
theorem int_nat {i : Int} (h : 0 ≤ i) : i = ((i.toNat : Nat) : Int) := by omega
theorem at_g {α : Type} {xs : List α} {z : Int} {j : Nat} {v : α} (e : z = (j : Int)) (h : xs[j]? = some v) : atI xs z = some v := by
  rw [e]
  exact atI_nat h
theorem sum_ones {α : Type} : ∀ l : List α, (l.map fun _ => 1).sum = l.length
  | [] => rfl
  | _ :: r => by rw [List.map_cons, List.sum_cons, sum_ones r, List.length_cons, Nat.add_comm]
theorem nsz {xs : List V} (h : Nat.ble xs.length 1000 = true := by rfl) : xs.length ≤ 1000 := Nat.le_of_ble_eq_true h
/-! ### loops -/
section
variable {K : PySem.W.Frag} {σ : L2.St} {H : Hp} {tl : TE} {ta : TA} {g : TG} {tb : TS} {D : Ends}
theorem r_forT (h : tl σ H fun x H1 => ∃ (a : Addr) (xs : List V), x = .ref a ∧ SqT K H1 a xs ∧ ∃ Pv : Nat → L2.St → Hp → Prop, Pv 0 σ H1 ∧ (∀ i σ H, Pv i σ H → SqT K H a xs) ∧
    (∀ i x σ H, xs[i]? = some x → Pv i σ H → g x σ H fun σ2 H2 => tb { D with nx := Pv (i + 1), ct := Pv (i + 1), bk := D.nx } σ2 H2) ∧ ∀ σ H, Pv xs.length σ H → D.nx σ H)
    (mono : ∀ Q Q' : VK, (∀ v H, Q v H → Q' v H) → tl σ H Q → tl σ H Q') : tFor (iTup K tl) g tb D σ H := by
  refine mono _ _ (fun v H1 hh => ?_) h
  obtain ⟨a, xs, rfl, hs, Pv, p0, hl, ht, hd⟩ := hh
  exact ⟨a, rfl, ⟨xs, hs⟩, for_it walk_tup Pv p0 (fun i σ H _ p => hl i σ H p) (fun i x σ H H' hi p y => by
    obtain ⟨rfl, hx⟩ := y
    exact ht i x σ _ hx p) hd⟩
theorem r_forL (h : tl σ H fun x H1 => ∃ (a : Addr) (xs : List V), x = .ref a ∧ SqL K H1 a xs ∧ ∃ Pv : Nat → L2.St → Hp → Prop, Pv 0 σ H1 ∧ (∀ i σ H, Pv i σ H → SqL K H a xs) ∧
    (∀ i x σ H, xs[i]? = some x → Pv i σ H → g x σ H fun σ2 H2 => tb { D with nx := Pv (i + 1), ct := Pv (i + 1), bk := D.nx } σ2 H2) ∧ ∀ σ H, Pv xs.length σ H → D.nx σ H)
    (mono : ∀ Q Q' : VK, (∀ v H, Q v H → Q' v H) → tl σ H Q → tl σ H Q') : tFor (iList K tl) g tb D σ H := by
  refine mono _ _ (fun v H1 hh => ?_) h
  obtain ⟨a, xs, rfl, hs, Pv, p0, hl, ht, hd⟩ := hh
  exact ⟨a, rfl, ⟨xs, hs⟩, for_it walk_list Pv p0 (fun i σ H _ p => hl i σ H p) (fun i x σ H H' hi p y => by
    obtain ⟨rfl, hx⟩ := y
    exact ht i x σ _ hx p) hd⟩
theorem m_var {n : Nat} : ∀ Q Q' : VK, (∀ v H, Q v H → Q' v H) → tVar n σ H Q → tVar n σ H Q' := fun Q Q' h t => by
  obtain ⟨v, e, q⟩ := t
  exact ⟨v, e, h v _ q⟩
/-- over a name's list, tuple, text -/
theorem r_forTv {n : Nat} {a : Addr} {xs : List V} (e : σ[n]? = some (some (.ref a))) (hs : SqT K H a xs) (Pv : Nat → L2.St → Hp → Prop) (p0 : Pv 0 σ H) (hl : ∀ i σ H, Pv i σ H → SqT K H a xs)
    (ht : ∀ i x σ H, xs[i]? = some x → Pv i σ H → g x σ H fun σ2 H2 => tb { D with nx := Pv (i + 1), ct := Pv (i + 1), bk := D.nx } σ2 H2) (hd : ∀ σ H, Pv xs.length σ H → D.nx σ H) : tFor (iTup K (tVar n)) g tb D σ H :=
  r_forT ⟨_, e, a, xs, rfl, hs, Pv, p0, hl, ht, hd⟩ m_var
theorem r_forLv {n : Nat} {a : Addr} {xs : List V} (e : σ[n]? = some (some (.ref a))) (hs : SqL K H a xs) (Pv : Nat → L2.St → Hp → Prop) (p0 : Pv 0 σ H) (hl : ∀ i σ H, Pv i σ H → SqL K H a xs)
    (ht : ∀ i x σ H, xs[i]? = some x → Pv i σ H → g x σ H fun σ2 H2 => tb { D with nx := Pv (i + 1), ct := Pv (i + 1), bk := D.nx } σ2 H2) (hd : ∀ σ H, Pv xs.length σ H → D.nx σ H) : tFor (iList K (tVar n)) g tb D σ H :=
  r_forL ⟨_, e, a, xs, rfl, hs, Pv, p0, hl, ht, hd⟩ m_var
theorem r_forSv {n : Nat} {z : Str} (e : σ[n]? = some (some (.str z))) (Pv : Nat → L2.St → Hp → Prop) (p0 : Pv 0 σ H)
    (ht : ∀ i c σ H, (cs z)[i]? = some c → Pv i σ H → g (.str ⟨#[c]⟩) σ H fun σ2 H2 => tb { D with nx := Pv (i + 1), ct := Pv (i + 1), bk := D.nx } σ2 H2) (hd : ∀ σ H, Pv z.length σ H → D.nx σ H) : tFor (iStr (tVar n)) g tb D σ H := by
  refine ⟨_, e, z, rfl, for_it walk_str Pv p0 (fun _ _ _ _ _ => trivial) (fun i x σ H H' hi p y => ?_) hd⟩
  obtain ⟨rfl, c, hc, rfl⟩ := y
  exact ht i c σ _ (by rw [Array.getElem?_toList]; exact hc) p
theorem walk_E {G : Hp → Prop} {n : Nat} {Y : Nat → Hp → V → Prop} : Walk (ItE G n Y) n G (fun i H v H' => ∃ T x, v = .ref T ∧ H T = none ∧ H' = upd H T (.tup [.int (i : Nat), x]) ∧ Y i H x) :=
  ⟨fun i H hi g => ⟨g, hi⟩, fun H g => ⟨g, rfl⟩, fun i H x H' hi g y => y⟩
theorem r_forETv {n : Nat} {a : Addr} {xs : List V} (e : σ[n]? = some (some (.ref a))) (hs : SqT K H a xs) (Pv : Nat → L2.St → Hp → Prop) (p0 : Pv 0 σ H) (hl : ∀ i σ H, Pv i σ H → SqT K H a xs)
    (ht : ∀ i x σ H p, xs[i]? = some x → Pv i σ H → H p = none → g (.ref p) σ (upd H p (.tup [.int (i : Nat), x])) fun σ2 H2 => tb { D with nx := Pv (i + 1), ct := Pv (i + 1), bk := D.nx } σ2 H2)
    (hd : ∀ σ H, Pv xs.length σ H → D.nx σ H) : tFor (Dk.iEnumT K (tCons (tVar n) tNil)) g tb D σ H := by
  refine ⟨_, e, a, xs, rfl, hs, for_it walk_E Pv p0 (fun i σ H _ p => hl i σ H p) (fun i x σ H H' hi p y => ?_) hd⟩
  obtain ⟨T, x', rfl, hT, rfl, hx⟩ := y
  exact ht i x' σ H T hx p hT
theorem r_forESv {n : Nat} {z : Str} (e : σ[n]? = some (some (.str z))) (Pv : Nat → L2.St → Hp → Prop) (p0 : Pv 0 σ H)
    (ht : ∀ i c σ H p, (cs z)[i]? = some c → Pv i σ H → H p = none → g (.ref p) σ (upd H p (.tup [.int (i : Nat), .str ⟨#[c]⟩])) fun σ2 H2 => tb { D with nx := Pv (i + 1), ct := Pv (i + 1), bk := D.nx } σ2 H2)
    (hd : ∀ σ H, Pv z.length σ H → D.nx σ H) : tFor (Dk.iEnumS (tCons (tVar n) tNil)) g tb D σ H := by
  refine ⟨_, e, z, rfl, for_it walk_E Pv p0 (fun _ _ _ _ _ => trivial) (fun i x σ H H' hi p y => ?_) hd⟩
  obtain ⟨T, x', rfl, hT, rfl, c, hc, rfl⟩ := y
  exact ht i c σ H T (by rw [Array.getElem?_toList]; exact hc) p hT
/-- over range(n) -/
theorem r_forR1 (h : ta σ H fun vs H1 => ∃ n : Int, vs = [.int n] ∧ -1000000 ≤ n ∧ n ≤ 1000000 ∧ ∃ Pv : Nat → L2.St → Hp → Prop, Pv 0 σ H1 ∧
    (∀ (i : Nat) σ H, (i : Int) < n → Pv i σ H → g (.int (i : Nat)) σ H fun σ2 H2 => tb { D with nx := Pv (i + 1), ct := Pv (i + 1), bk := D.nx } σ2 H2) ∧ ∀ σ H, Pv n.toNat σ H → D.nx σ H)
    (mono : ∀ Q Q' : List V → Hp → Prop, (∀ v H, Q v H → Q' v H) → ta σ H Q → ta σ H Q') : tFor (iRng1 ta) g tb D σ H := by
  refine mono _ _ (fun v H1 hh => ?_) h
  obtain ⟨n, rfl, h1, h2, Pv, p0, ht, hd⟩ := hh
  refine ⟨n, rfl, by omega, by omega, for_range Pv p0 (fun i σ H hi p => ?_) hd⟩
  have z := ht i σ H (by omega) p
  rw [Int.zero_add]
  exact z
end
section
variable {K : PySem.W.Frag} {σ : L2.St} {H : Hp} {N : L2.St → Hp → Prop} {v : V} {vs : List V} {t : TG} {u : TGs}
theorem r_gtup {n : Nat} {a : Addr} (h : SqT K H a vs) (hl : vs.length = n) (k : u vs σ H N) : gTup K n u (.ref a) σ H N := ⟨a, vs, rfl, h, hl, k⟩
theorem r_gcons (k : t v σ H fun σ' H' => u vs σ' H' N) : gCons t u (v :: vs) σ H N := ⟨v, vs, rfl, k⟩
theorem r_gnil (k : N σ H) : gNil [] σ H N := ⟨rfl, k⟩
theorem r_mkO {C : Addr} {sp : Sp} {dvs : List V} {ta : TA} {Q : XK} (h : ta σ H fun vs H1 => vs.length ≤ 1000 ∧ ∀ a, H1 a = none → sp (.ref a :: (vs ++ dvs)) (upd H1 a (exo a C none))
  (fun v H2 => v = .non ∧ ∃ (d : Addr) (fs : List (Str × V)), H2 a = some (exo a C (some d)) ∧ H2 d = some (exd d fs) ∧ H1 d = none ∧ Q (.ref C) (some d) (upd (del H2 a) d (.xd fs))) (fun _ _ _ => False)) : tMkO C sp dvs ta σ H Q := h
theorem r_xfo {a C : Addr} {cls : Value} {d : Option Addr} {f : Str} {te : TE} {Q : VK} (h : te σ H fun x H1 => x = .ref a ∧ cls = .ref C ∧ ∃ (dd : Addr) (fs : List (Str × V)) (v : V), d = some dd ∧ H1 dd = some (.xd fs) ∧ fs.lookup f = some v ∧ Q v H1) : tXf a cls d C f te σ H Q := h
theorem r_noP {QO : Option Int → Hp → Prop} (q : QO none H) : tNoPart σ H QO := q
theorem r_part {te : TE} {QO : Option Int → Hp → Prop} (h : te σ H fun x H1 => ∃ i, x = .int i ∧ QO (some i) H1) : tPart te σ H QO := h
theorem r_pI {i : Int} {PO : Int → Prop} (q : PO i) : ∃ j, V.int i = .int j ∧ PO j := ⟨i, rfl, q⟩
end
/-! ### draws -/
def M61 : Int := 2305843009213693951
/-- the state of the draws stands at a -/
def Stt (H : Hp) (a : Addr) : Prop := ∃ z : Int, H a = some (.lst [.int z]) ∧ 0 ≤ z ∧ z < M61
theorem nat61 {z : Int} (h0 : 0 ≤ z) (h : z < M61) : z.natAbs < 2 ^ 61 := by
  unfold M61 at h
  have e : (2 : Nat) ^ 61 = 2305843009213693952 := by decide
  omega
/-- draws were made: the state at a turned, all else is as it was -/
structure Dr (a : Addr) (H H' : Hp) : Prop where
  hh : ∀ b o, b ≠ a → H b = some o → H' b = some o
  st : Stt H' a
section
variable {A : Addr → Prop} {a p : Addr} {G H G1 H1 H2 : Hp} {o : HO}
theorem Stt.up (s : Stt H a) (e : Ex H H1) : Stt H1 a := s.imp fun _ z => ⟨e _ _ z.1, z.2⟩
theorem Stt.ne (s : Stt H a) (h : H p = none) : p ≠ a := fun z => by
  obtain ⟨v, e, _⟩ := s
  rw [← z, h] at e
  cases e
theorem Stt.put (s : Stt H a) (h : p ≠ a) : Stt (upd H p o) a := s.imp fun _ z => ⟨by rw [upd_ne (Ne.symm h)]; exact z.1, z.2⟩
theorem Dr.refl (s : Stt H a) : Dr a H H := ⟨fun _ _ _ h => h, s⟩
theorem Dr.trans (x : Dr a H H1) (y : Dr a H1 H2) : Dr a H H2 := ⟨fun b o n h => y.hh b o n (x.hh b o n h), y.st⟩
theorem Dr.ex (s : Stt H a) (e : Ex H H1) : Dr a H H1 := ⟨fun b o _ h => e b o h, s.up e⟩
theorem Dr.then (x : Dr a H H1) (e : Ex H1 H2) : Dr a H H2 := x.trans (.ex x.st e)
theorem Dr.set {z : Int} (h0 : 0 ≤ z) (h : z < M61) : Dr a H (upd H a (.lst [.int z])) := ⟨fun b o n e => by rw [upd_ne n]; exact e, z, upd_same, h0, h⟩
theorem Dr.mut (x : Dr a H H1) (hp : H p = none) (ne : p ≠ a) : Dr a H (upd H1 p o) :=
  ⟨fun b u n e => by rw [upd_ne (ne_of_none e hp)]; exact x.hh b u n e, x.st.put ne⟩
theorem Dr.new (x : Dr a H H1) (hp : H1 p = none) : Dr a H (upd H1 p o) := x.then (Same.new (Same.refl H1) hp)
theorem Dr.gr (g : Ex G H) (n : G a = none) (s : Stt H a) (d : Dr a H H1) : Gr (· = a) G H G H1 where
  gg := Same.refl G
  gh := fun b x e => d.hh b x (ne_of_none e n) (g b x e)
  hh := fun b x z e => d.hh b x z e
  th := fun b x e => by
    by_cases h : b = a
    · obtain ⟨v, z, _⟩ := d.st
      exact ⟨_, by rw [h]; exact z⟩
    · exact ⟨x, d.hh b x h e⟩
  nw := fun b x e z => z
theorem Gr.na (t : Gr A G H G1 H1) (n : G a = none) (s : Stt H a) : G1 a = none := by
  obtain ⟨z, e, _⟩ := s
  exact t.nw a _ e n
theorem Gr.dr (t : Gr (· = a) G H G1 H1) (n : G a = none) (s : Stt H a) (s1 : Stt H1 a) (d : Dr a H1 H2) : Gr (· = a) G H G1 H2 :=
  t.trans (Dr.gr t.gh (t.na n s) s1 d)
end
/-! ### the laws' own draws -/
def AL : Str := "\n !\"#$&'()*+,-./0123456789:;<=>?@ABCDEFGHIJKLMNOPQRSTUVWXYZ[\\]^_`abcdefghijklmnopqrstuvwxyz{|}~"
def InAL (z : Str) : Prop := ∀ c ∈ cs z, c ∈ cs AL
theorem AL_len : AL.length = 95 := by decide +kernel
def spDraw : Sp := fun vs H Q _ => ∃ (a : Addr) (n : Int), vs = [.ref a, .int n] ∧ Stt H a ∧ 0 < n ∧ ∀ (d : Int) H', 0 ≤ d → d < n → Dr a H H' → Q (.int d) H'
def spStart (K : PySem.W.Frag) : Sp := fun vs H Q _ => ∃ (s : Addr) (ns : List Int), vs = [.ref s] ∧ SqL K H s (ns.map V.int) ∧ ∀ p H', Ex H H' → H p = none → Stt H' p → Q (.ref p) H'
def spSigns : Sp := fun vs H Q _ => vs = [] ∧ Q (.str AL) H
def spText : Sp := fun vs H Q _ => ∃ (a : Addr) (n : Int), vs = [.ref a, .int n] ∧ Stt H a ∧ 0 ≤ n ∧ n ≤ 8000 ∧ ∀ o H', Dr a H H' → (o.length : Int) = n → InAL o → Q (.str o) H'
theorem mix_next {z : Int} (e : Int) : 0 ≤ e % M61 ∧ e % M61 < M61 := ⟨Int.emod_nonneg _ (by decide), Int.emod_lt_of_pos _ (by decide)⟩
/-! ### what is known at a place of a drawing def -/
structure Wd (a : Addr) (G H : Hp) : Prop where
  g : Ex G H
  na : G a = none
  st : Stt H a
section
variable {a p : Addr} {G H G1 H1 G2 H2 : Hp} {o : HO} {xs : List V} {Q : VK}
theorem Wd.step (x : Wd a G H) (t : Gr (· = a) G H G1 H1) (s : Stt H1 a) : Wd a G1 H1 := ⟨t.gh, t.na x.na x.st, s⟩
theorem Wd.pure (x : Wd a G H) (t : Gr A0 G H G1 H1) : Wd a G1 H1 := ⟨t.gh, t.na x.na x.st, x.st.up t.same⟩
theorem Wd.ex (x : Wd a G H) (e : Ex H H1) : Wd a G H1 := ⟨x.g.trans e, x.na, x.st.up e⟩
theorem Wd.dr (x : Wd a G H) (d : Dr a H H1) : Wd a G H1 := ⟨(Dr.gr x.g x.na x.st d).gh, x.na, d.st⟩
theorem Wd.gdr (x : Wd a G H) (d : Dr a H H1) : Gr (· = a) G H G H1 := Dr.gr x.g x.na x.st d
/-- a new list, known for good -/
theorem w_lst (x : Wd a G H) (k : ∀ p G' H', Gr A0 G H G' H' → Wd a G' H' → G' p = some (.lst xs) → Q (.ref p) H') :
    ∀ p, H p = none → Q (.ref p) (upd H p (.lst xs)) := fun p hp => k p _ _ (Gr.new x.g hp) (x.pure (Gr.new x.g hp)) upd_same
theorem w_tup (x : Wd a G H) (k : ∀ p G' H', Gr A0 G H G' H' → Wd a G' H' → G' p = some (.tup xs) → Q (.ref p) H') :
    ∀ p, H p = none → Q (.ref p) (upd H p (.tup xs)) := fun p hp => k p _ _ (Gr.new x.g hp) (x.pure (Gr.new x.g hp)) upd_same
end
theorem new_ex {G H : Hp} {p : Addr} (g : Ex G H) (hp : H p = none) (o : HO) : ∃ G' H', H' = upd H p o ∧ Gr A0 G H G' H' ∧ G' p = some o :=
  ⟨_, _, rfl, Gr.new g hp, upd_same⟩
theorem w_new {a p : Addr} {G H : Hp} (x : Wd a G H) (hp : H p = none) (o : HO) : ∃ G' H', H' = upd H p o ∧ Gr A0 G H G' H' ∧ Wd a G' H' ∧ G' p = some o :=
  ⟨_, _, rfl, Gr.new x.g hp, x.pure (Gr.new x.g hp), upd_same⟩
theorem atI_m1 {xs : List V} (h : xs ≠ []) : ∃ x, atI xs (-1) = some x ∧ x ∈ xs := by
  obtain ⟨l, y, rfl⟩ : ∃ l y, xs = l ++ [y] := ⟨_, _, (List.dropLast_concat_getLast h).symm⟩
  exact ⟨y, atI_last _ _, by simp⟩
theorem own_ex {G H : Hp} {p : Addr} (g : Ex G H) (hp : H p = none) (o : HO) : ∃ H', H' = upd H p o ∧ Gr A0 G H G H' ∧ H' p = some o ∧ G p = none :=
  ⟨_, rfl, Gr.own g hp, upd_same, g.free hp⟩
theorem Gr.fresh {A : Addr → Prop} {G H G1 H1 : Hp} {p : Addr} (t : Gr A G H G1 H1) (h : H1 p = none) : H p = none := by
  cases e : H p with
  | none => rfl
  | some o =>
    obtain ⟨o', z⟩ := t.th p o e
    rw [h] at z
    cases z
theorem ixN_nat {n : Nat} {i : Int} (h0 : 0 ≤ i) (h : i < (n : Int)) : ixN n i = some i.toNat := by
  unfold ixN
  rw [if_pos h0, if_pos h]
/-! loops whose source is reckoned -/
section
variable {K : PySem.W.Frag} {σ : L2.St} {H : Hp} {tl : TE} {ta : TA} {g : TG} {tb : TS} {D : Ends}
def LoopW (J : It) (g : TG) (tb : TS) (D : Ends) (σ : L2.St) (H1 : Hp) : Prop := ∃ W : Nat → Nat → L2.St → Hp → Prop, (∃ m, W 0 m σ H1) ∧ ∀ i m σ H, W i m σ H →
  (J.stop i H ∧ D.nx σ H) ∨ (J.go i H ∧ ∃ N : L2.St → Hp → Prop, (∀ σ' H', N σ' H' → ∃ m', m' < m ∧ W (i + 1) m' σ' H') ∧ ∀ x H', J.yld i H x H' → g x σ H' fun σ2 H2 => tb { D with nx := N, ct := N, bk := D.nx } σ2 H2)
theorem r_forLo (h : tl σ H fun x H1 => ∃ a, x = .ref a ∧ (∃ xs, SqL K H1 a xs) ∧ LoopW (Itl K a) g tb D σ H1) : tFor (iList K tl) g tb D σ H := h
theorem r_forTo (h : tl σ H fun x H1 => ∃ a, x = .ref a ∧ (∃ xs, SqT K H1 a xs) ∧ LoopW (Itt K a) g tb D σ H1) : tFor (iTup K tl) g tb D σ H := h
theorem r_forSo (h : tl σ H fun x H1 => ∃ z, x = .str z ∧ LoopW (Its z) g tb D σ H1) : tFor (iStr tl) g tb D σ H := h
theorem r_forRo (h : ta σ H fun vs H1 => ∃ j : Int, vs = [.int j] ∧ -(2 ^ 62) ≤ j ∧ j < 2 ^ 62 ∧ LoopW (Itr 0 j.toNat) g tb D σ H1) : tFor (iRng1 ta) g tb D σ H := h
theorem r_forR2o (h : ta σ H fun vs H1 => ∃ i j : Int, vs = [.int i, .int j] ∧ (-(2 ^ 62) ≤ i ∧ i < 2 ^ 62 ∧ -(2 ^ 62) ≤ j ∧ j < 2 ^ 62) ∧ LoopW (Itr i (j - i).toNat) g tb D σ H1) : tFor (iRng2 ta) g tb D σ H := h
theorem r_forEo (h : ta σ H fun vs H1 => ∃ a xs, vs = [.ref a] ∧ SqT K H1 a xs ∧ LoopW (ItE (fun H => SqT K H a xs) xs.length fun i _ x => xs[i]? = some x) g tb D σ H1) : tFor (Dk.iEnumT K ta) g tb D σ H := h
theorem r_forESo (h : ta σ H fun vs H1 => ∃ z, vs = [.str z] ∧ LoopW (ItE (fun _ => True) z.cps.size fun i _ x => ∃ c, z.cps[i]? = some c ∧ x = .str ⟨#[c]⟩) g tb D σ H1) : tFor (Dk.iEnumS ta) g tb D σ H := h
theorem l_L {a : Addr} {xs : List V} (hs : SqL K H a xs) (Pv : Nat → L2.St → Hp → Prop) (p0 : Pv 0 σ H) (hl : ∀ i σ H, Pv i σ H → SqL K H a xs)
    (ht : ∀ i x σ H, xs[i]? = some x → Pv i σ H → g x σ H fun σ2 H2 => tb { D with nx := Pv (i + 1), ct := Pv (i + 1), bk := D.nx } σ2 H2) (hd : ∀ σ H, Pv xs.length σ H → D.nx σ H) :
    ∃ b, V.ref a = .ref b ∧ (∃ xs, SqL K H b xs) ∧ LoopW (Itl K b) g tb D σ H :=
  ⟨a, rfl, ⟨xs, hs⟩, for_it walk_list Pv p0 (fun i σ H _ p => hl i σ H p) (fun i x σ H H' hi p y => by
    obtain ⟨rfl, hx⟩ := y
    exact ht i x σ _ hx p) hd⟩
theorem l_T {a : Addr} {xs : List V} (hs : SqT K H a xs) (Pv : Nat → L2.St → Hp → Prop) (p0 : Pv 0 σ H) (hl : ∀ i σ H, Pv i σ H → SqT K H a xs)
    (ht : ∀ i x σ H, xs[i]? = some x → Pv i σ H → g x σ H fun σ2 H2 => tb { D with nx := Pv (i + 1), ct := Pv (i + 1), bk := D.nx } σ2 H2) (hd : ∀ σ H, Pv xs.length σ H → D.nx σ H) :
    ∃ b, V.ref a = .ref b ∧ (∃ xs, SqT K H b xs) ∧ LoopW (Itt K b) g tb D σ H :=
  ⟨a, rfl, ⟨xs, hs⟩, for_it walk_tup Pv p0 (fun i σ H _ p => hl i σ H p) (fun i x σ H H' hi p y => by
    obtain ⟨rfl, hx⟩ := y
    exact ht i x σ _ hx p) hd⟩
theorem l_S {z : Str} (Pv : Nat → L2.St → Hp → Prop) (p0 : Pv 0 σ H)
    (ht : ∀ i c σ H, (cs z)[i]? = some c → Pv i σ H → g (.str ⟨#[c]⟩) σ H fun σ2 H2 => tb { D with nx := Pv (i + 1), ct := Pv (i + 1), bk := D.nx } σ2 H2) (hd : ∀ σ H, Pv z.length σ H → D.nx σ H) :
    ∃ y, V.str z = .str y ∧ LoopW (Its y) g tb D σ H := by
  refine ⟨z, rfl, for_it walk_str Pv p0 (fun _ _ _ _ _ => trivial) (fun i x σ H H' hi p y => ?_) hd⟩
  obtain ⟨rfl, c, hc, rfl⟩ := y
  exact ht i c σ _ (by rw [Array.getElem?_toList]; exact hc) p
theorem l_R {n : Int} (h1 : -1000000 ≤ n) (h2 : n ≤ 1000000) (Pv : Nat → L2.St → Hp → Prop) (p0 : Pv 0 σ H)
    (ht : ∀ (i : Nat) σ H, (i : Int) < n → Pv i σ H → g (.int (i : Nat)) σ H fun σ2 H2 => tb { D with nx := Pv (i + 1), ct := Pv (i + 1), bk := D.nx } σ2 H2) (hd : ∀ σ H, Pv n.toNat σ H → D.nx σ H) :
    ∃ j : Int, [V.int n] = [.int j] ∧ -(2 ^ 62) ≤ j ∧ j < 2 ^ 62 ∧ LoopW (Itr 0 j.toNat) g tb D σ H := by
  refine ⟨n, rfl, by omega, by omega, for_range Pv p0 (fun i σ H hi p => ?_) hd⟩
  have z := ht i σ H (by omega) p
  rw [Int.zero_add]
  exact z
theorem l_E {a : Addr} {xs : List V} (hs : SqT K H a xs) (Pv : Nat → L2.St → Hp → Prop) (p0 : Pv 0 σ H) (hl : ∀ i σ H, Pv i σ H → SqT K H a xs)
    (ht : ∀ i x σ H p, xs[i]? = some x → Pv i σ H → H p = none → g (.ref p) σ (upd H p (.tup [.int (i : Nat), x])) fun σ2 H2 => tb { D with nx := Pv (i + 1), ct := Pv (i + 1), bk := D.nx } σ2 H2)
    (hd : ∀ σ H, Pv xs.length σ H → D.nx σ H) : ∃ b ys, [V.ref a] = [.ref b] ∧ SqT K H b ys ∧ LoopW (ItE (fun H => SqT K H b ys) ys.length fun i _ x => ys[i]? = some x) g tb D σ H := by
  refine ⟨a, xs, rfl, hs, for_it walk_E Pv p0 (fun i σ H _ p => hl i σ H p) (fun i x σ H H' hi p y => ?_) hd⟩
  obtain ⟨T, x', rfl, hT, rfl, hx⟩ := y
  exact ht i x' σ H T hx p hT
end
theorem cutV_mem {xs : List V} {lo hi : Option Int} {x : V} (h : x ∈ cutV xs lo hi) : x ∈ xs := List.mem_of_mem_drop (List.mem_of_mem_take h)
theorem cutV_len {xs : List V} {lo hi : Option Int} : (cutV xs lo hi).length ≤ xs.length := by
  unfold cutV
  rw [List.length_take, List.length_drop]
  omega
theorem cutV_to (xs : List V) (n : Nat) : cutV xs none (some (n : Int)) = xs.take n := by
  unfold cutV
  rw [HT.sIx_nat, HT.sIx_none, List.drop_zero, Nat.sub_zero]
  by_cases h : n ≤ xs.length
  · rw [Nat.min_eq_left h]
  · rw [Nat.min_eq_right (by omega), List.take_of_length_le (Nat.le_refl _), List.take_of_length_le (by omega)]
theorem atI_lt {xs : List V} {i : Int} (h0 : 0 ≤ i) (h : i < (xs.length : Int)) : ∃ x, atI xs i = some x ∧ x ∈ xs := by
  have hi : i.toNat < xs.length := by omega
  exact ⟨xs[i.toNat], at_g (by omega) (List.getElem?_eq_getElem hi), List.getElem_mem _⟩
end Dk

/-! the told order: signs, the relation by its hops, its closure by rounds over a table of bits -/
namespace Tl
abbrev Sg := Nat × Nat
section
variable (L R : Nat → Sg)
/-- told ahead, by hops -/
inductive A : Sg → Sg → Prop where
  | same {x y : Sg} (h : x.1 = y.1) (i : x.2 < y.2) : A x y
  | rEq {x y : Sg} (h : y.1 < x.1) (e : R x.1 = y) : A x y
  | rGo {x y : Sg} (h : y.1 < x.1) (a : A (R x.1) y) : A x y
  | lEq {x y : Sg} (h : x.1 < y.1) (e : x = L y.1) : A x y
  | lGo {x y : Sg} (h : x.1 < y.1) (a : A x (L y.1)) : A x y
def E (x y : Sg) : Prop := x = y ∨ A L R x y
end
section
variable {L R : Nat → Sg} {x y z : Sg}
theorem A.same_iff (h : x.1 = y.1) : A L R x y ↔ x.2 < y.2 :=
  ⟨fun a => by cases a with
    | same _ i => exact i
    | rEq g _ => omega
    | rGo g _ => omega
    | lEq g _ => omega
    | lGo g _ => omega, fun i => .same h i⟩
theorem A.r_iff (h : y.1 < x.1) : A L R x y ↔ E L R (R x.1) y :=
  ⟨fun a => by cases a with
    | same g _ => omega
    | rEq _ e => exact .inl e
    | rGo _ a => exact .inr a
    | lEq g _ => omega
    | lGo g _ => omega, fun e => e.elim (.rEq h) (.rGo h)⟩
theorem A.l_iff (h : x.1 < y.1) : A L R x y ↔ E L R x (L y.1) :=
  ⟨fun a => by cases a with
    | same g _ => omega
    | rEq g _ => omega
    | rGo g _ => omega
    | lEq _ e => exact .inl e
    | lGo _ a => exact .inr a, fun e => e.elim (.lEq h) (.lGo h)⟩
theorem A.irr : ¬ A L R x x := fun a => by
  have z := (A.same_iff (L := L) (R := R) (rfl : x.1 = x.1)).mp a
  omega
/-- births below n: left and right of lesser chunks, the left told ahead of the right -/
structure Bs (L R : Nat → Sg) (n : Nat) : Prop where
  l : ∀ c, 0 < c → c < n → (L c).1 < c
  r : ∀ c, 0 < c → c < n → (R c).1 < c
  lr : ∀ c, 0 < c → c < n → A L R (L c) (R c)
theorem Bs.mono {n m : Nat} (b : Bs L R n) (h : m ≤ n) : Bs L R m := ⟨fun c h0 h1 => b.l c h0 (by omega), fun c h0 h1 => b.r c h0 (by omega), fun c h0 h1 => b.lr c h0 (by omega)⟩
theorem Bs.trans {n : Nat} (b : Bs L R n) : ∀ m, m ≤ n → ∀ x y z : Sg, x.1 < m → y.1 < m → z.1 < m → A L R x y → A L R y z → A L R x z := by
  intro m
  induction m with
  | zero => intro _ x y z h; omega
  | succ m ih =>
    intro hm x y z hx hy hz a1 a2
    have ih' := ih (by omega)
    have eT : ∀ {u v t : Sg}, u.1 < m → v.1 < m → t.1 < m → E L R u v → A L R v t → A L R u t := fun h1 h2 h3 e a => by
      rcases e with rfl | e
      · exact a
      · exact ih' _ _ _ h1 h2 h3 e a
    have tE : ∀ {u v t : Sg}, u.1 < m → v.1 < m → t.1 < m → A L R u v → E L R v t → A L R u t := fun h1 h2 h3 a e => by
      rcases e with rfl | e
      · exact a
      · exact ih' _ _ _ h1 h2 h3 a e
    by_cases cx : x.1 = m
    · by_cases cy : y.1 = m
      · by_cases cz : z.1 = m
        · have i1 := (A.same_iff (by omega)).mp a1
          have i2 := (A.same_iff (by omega)).mp a2
          exact .same (by omega) (by omega)
        · have e2 := (A.r_iff (by omega)).mp a2
          exact (A.r_iff (by omega)).mpr (by rw [show x.1 = y.1 by omega]; exact e2)
      · by_cases cz : z.1 = m
        · exfalso
          have m0 : 0 < m := by omega
          have hl := b.l m m0 (by omega)
          have hr := b.r m m0 (by omega)
          have hlr := b.lr m m0 (by omega)
          have e1 := (A.r_iff (by omega)).mp a1
          have e2 := (A.l_iff (by omega)).mp a2
          rw [cx] at e1
          rw [cz] at e2
          have a3 : A L R (L m) y := tE hl hr (by omega) hlr e1
          have a4 : A L R (L m) (L m) := tE hl (by omega) hl a3 e2
          exact A.irr a4
        · have e1 := (A.r_iff (by omega)).mp a1
          have hr := b.r x.1 (by omega) (by omega)
          exact (A.r_iff (by omega)).mpr (.inr (eT (by omega) (by omega) (by omega) e1 a2))
    · by_cases cy : y.1 = m
      · by_cases cz : z.1 = m
        · have e1 := (A.l_iff (by omega)).mp a1
          exact (A.l_iff (by omega)).mpr (by rw [show z.1 = y.1 by omega]; exact e1)
        · have e1 := (A.l_iff (by omega)).mp a1
          have e2 := (A.r_iff (by omega)).mp a2
          have hl := b.l y.1 (by omega) (by omega)
          have hr := b.r y.1 (by omega) (by omega)
          have hlr := b.lr y.1 (by omega) (by omega)
          have a3 := eT (by omega) (by omega) (by omega) e1 hlr
          exact tE (by omega) (by omega) (by omega) a3 e2
      · by_cases cz : z.1 = m
        · have e2 := (A.l_iff (by omega)).mp a2
          have hl := b.l z.1 (by omega) (by omega)
          exact (A.l_iff (by omega)).mpr (.inr (tE (by omega) (by omega) (by omega) a1 e2))
        · exact ih' x y z (by omega) (by omega) (by omega) a1 a2
theorem Bs.tr {n : Nat} (b : Bs L R n) (hx : x.1 < n) (hy : y.1 < n) (hz : z.1 < n) (a1 : A L R x y) (a2 : A L R y z) : A L R x z := b.trans n (Nat.le_refl n) x y z hx hy hz a1 a2
/-- only births up to the greater chunk count -/
theorem A.congr {L' R' : Nat → Sg} {n : Nat} (hl : ∀ c, 0 < c → c < n → L c = L' c) (hr : ∀ c, 0 < c → c < n → R c = R' c) (b : ∀ c, 0 < c → c < n → (L c).1 < c ∧ (R c).1 < c) :
    ∀ {x y : Sg}, A L R x y → x.1 < n → y.1 < n → A L' R' x y := fun {x y} a => by
  induction a with
  | same h i => exact fun _ _ => .same h i
  | @rEq x y h e => exact fun hx hy => .rEq h ((hr x.1 (by omega) hx).symm.trans e)
  | @rGo x y h a ih =>
    intro hx hy
    have e := hr x.1 (by omega) hx
    have w := (b x.1 (by omega) hx).2
    exact .rGo h (e ▸ ih (by omega) hy)
  | @lEq x y h e => exact fun hx hy => .lEq h (e.trans (hl y.1 (by omega) hy))
  | @lGo x y h a ih =>
    intro hx hy
    have e := hl y.1 (by omega) hy
    have w := (b y.1 (by omega) hy).1
    exact .lGo h (e ▸ ih hx (by omega))
end
/-! ### paths -/
inductive Pth (S : List (Nat × Nat)) : Nat → Nat → Nat → Prop where
  | one {a b : Nat} (h : (a, b) ∈ S) : Pth S 1 a b
  | step {k a b c : Nat} (h : (a, b) ∈ S) (p : Pth S k b c) : Pth S (k + 1) a c
def Rch (S : List (Nat × Nat)) (a b : Nat) : Prop := ∃ k, Pth S k a b
section
variable {S : List (Nat × Nat)} {a b c : Nat}
theorem Pth.app {k m : Nat} (p : Pth S k a b) (q : Pth S m b c) : Rch S a c := by
  induction p with
  | one h => exact ⟨_, .step h q⟩
  | step h p ih =>
    obtain ⟨k', r⟩ := ih q
    exact ⟨_, .step h r⟩
theorem Rch.tr (p : Rch S a b) (q : Rch S b c) : Rch S a c := by
  obtain ⟨k, p⟩ := p
  obtain ⟨m, q⟩ := q
  exact p.app q
/-- a list without repeats within another one is no longer -/
theorem nodup_le : ∀ {l m : List Nat}, l.Nodup → (∀ x ∈ l, x ∈ m) → l.length ≤ m.length
  | [], m, _, _ => Nat.zero_le _
  | x :: r, m, hn, hm => by
    have hx : x ∈ m := hm x (List.mem_cons_self ..)
    have hn' := List.nodup_cons.mp hn
    have h1 : ∀ y ∈ r, y ∈ m.erase x := fun y hy => (List.mem_erase_of_ne (by
      rintro rfl
      exact hn'.1 hy)).mpr (hm y (List.mem_cons_of_mem _ hy))
    have h2 := nodup_le hn'.2 h1
    rw [List.length_erase_of_mem hx] at h2
    have h3 : 0 < m.length := List.length_pos_of_mem hx
    rw [List.length_cons]
    omega
theorem Pth.bound {k n : Nat} {lt : Nat → Nat → Prop} (hS : ∀ a b, (a, b) ∈ S → lt a b ∧ a < n ∧ b < n) (tr : ∀ a b c, a < n → b < n → c < n → lt a b → lt b c → lt a c) (ir : ∀ a, ¬ lt a a) (p : Pth S k a b) : k + 1 ≤ n := by
  have key : ∀ {k a b}, Pth S k a b → ∃ l : List Nat, l.length = k ∧ (a :: l).Nodup ∧ (∀ x ∈ l, lt a x) ∧ ∀ x ∈ a :: l, x < n := by
    intro k a b p
    induction p with
    | @one a b h =>
      obtain ⟨h1, h2, h3⟩ := hS _ _ h
      refine ⟨[b], rfl, ?_, by simpa using h1, by simp [h2, h3]⟩
      simp
      exact fun e => ir a (e ▸ h1)
    | @step k a b c h p ih =>
      obtain ⟨l, hl, hn, hlt, hb⟩ := ih
      obtain ⟨h1, h2, h3⟩ := hS _ _ h
      have all : ∀ x ∈ b :: l, lt a x := fun x hx => by
        rcases List.mem_cons.mp hx with rfl | hx
        · exact h1
        · exact tr a b x h2 h3 (hb x (List.mem_cons_of_mem _ hx)) h1 (hlt x hx)
      refine ⟨b :: l, by rw [List.length_cons, hl], List.nodup_cons.mpr ⟨fun hm => ir a (all a hm), hn⟩, all, fun x hx => ?_⟩
      rcases List.mem_cons.mp hx with rfl | hx
      · exact h2
      · exact hb x hx
  obtain ⟨l, hl, hn, _, hb⟩ := key p
  have z := nodup_le (m := List.range n) hn fun x hx => List.mem_range.mpr (hb x hx)
  rw [List.length_cons, hl, List.length_range] at z
  exact z
end
/-! ### the table -/
def put (T : List Nat) (e : Nat × Nat) : List Nat := T.set e.1 (T.getD e.1 0 ||| 1 <<< e.2 ||| T.getD e.2 0)
def lap (S : List (Nat × Nat)) (T : List Nat) : List Nat := S.foldl put T
/-- T has b behind a -/
def Bit (T : List Nat) (a b : Nat) : Prop := (T.getD a 0).testBit b = true
section
variable {S : List (Nat × Nat)} {T : List Nat} {n : Nat}
theorem put_len (e : Nat × Nat) : (put T e).length = T.length := List.length_set ..
theorem lap_len : ∀ (S : List (Nat × Nat)) (T : List Nat), (lap S T).length = T.length
  | [], _ => rfl
  | e :: r, T => (lap_len r (put T e)).trans (put_len e)
theorem bit_put {e : Nat × Nat} (h : e.1 < T.length) {a b : Nat} : Bit (put T e) a b ↔ Bit T a b ∨ (a = e.1 ∧ (b = e.2 ∨ Bit T e.2 b)) := by
  unfold Bit put
  by_cases ha : a = e.1
  · subst ha
    have g : (T.set e.1 (T.getD e.1 0 ||| 1 <<< e.2 ||| T.getD e.2 0)).getD e.1 0 = T.getD e.1 0 ||| 1 <<< e.2 ||| T.getD e.2 0 := by
      simp [List.getD, List.getElem?_set, h]
    rw [g, Nat.testBit_or, Nat.testBit_or, Nat.one_shiftLeft, Nat.testBit_two_pow, Bool.or_eq_true, Bool.or_eq_true, decide_eq_true_iff]
    constructor
    · rintro ((h | h) | h)
      · exact .inl h
      · exact .inr ⟨rfl, .inl h.symm⟩
      · exact .inr ⟨rfl, .inr h⟩
    · rintro (h | ⟨_, h | h⟩)
      · exact .inl (.inl h)
      · exact .inl (.inr h.symm)
      · exact .inr h
  · have g : (T.set e.1 (T.getD e.1 0 ||| 1 <<< e.2 ||| T.getD e.2 0)).getD a 0 = T.getD a 0 := by
      simp [List.getD, List.getElem?_set, Ne.symm ha]
    rw [g]
    constructor
    · exact fun h => .inl h
    · rintro (h | ⟨h, _⟩)
      · exact h
      · exact absurd h ha
theorem lap_mono : ∀ (S : List (Nat × Nat)) {T : List Nat}, (∀ e ∈ S, e.1 < T.length) → ∀ {a b}, Bit T a b → Bit (lap S T) a b
  | [], _, _, _, _, h => h
  | e :: r, T, hS, a, b, h => lap_mono r (fun e' he => by rw [put_len]; exact hS e' (List.mem_cons_of_mem _ he)) ((bit_put (hS e (List.mem_cons_self ..))).mpr (.inl h))
theorem lap_edge : ∀ (S : List (Nat × Nat)) {T : List Nat}, (∀ e ∈ S, e.1 < T.length) → ∀ {a b c}, (a, b) ∈ S → c = b ∨ Bit T b c → Bit (lap S T) a c
  | e :: r, T, hS, a, b, c, hm, h => by
    have hr : ∀ e' ∈ r, e'.1 < (put T e).length := fun e' he => by rw [put_len]; exact hS e' (List.mem_cons_of_mem _ he)
    rcases List.mem_cons.mp hm with rfl | hm
    · exact lap_mono r hr ((bit_put (hS _ (List.mem_cons_self ..))).mpr (.inr ⟨rfl, h⟩))
    · refine lap_edge r hr hm (h.imp id fun h => (bit_put (hS e (List.mem_cons_self ..))).mpr (.inl h))
theorem lap_sound : ∀ (S : List (Nat × Nat)) {S0 : List (Nat × Nat)} {T : List Nat}, (∀ e ∈ S, e ∈ S0) → (∀ e ∈ S, e.1 < T.length) → (∀ a b, Bit T a b → Rch S0 a b) → ∀ a b, Bit (lap S T) a b → Rch S0 a b
  | [], _, _, _, _, h => h
  | e :: r, S0, T, h0, hS, h => lap_sound r (fun e' he => h0 e' (List.mem_cons_of_mem _ he)) (fun e' he => by rw [put_len]; exact hS e' (List.mem_cons_of_mem _ he)) fun a b hb => by
    refine Or.elim ((bit_put (hS e (List.mem_cons_self ..))).mp hb) (fun hb => h a b hb) fun hb => ?_
    · obtain ⟨ea, hb2⟩ := hb
      subst ea
      have he : Rch S0 e.1 e.2 := ⟨1, .one (h0 e (List.mem_cons_self ..))⟩
      refine Or.elim hb2 (fun e1 => ?_) (fun hb => he.tr (h _ _ hb))
      rw [e1]
      exact he
/-- behind r laps all paths of at most r steps are there -/
def Upto (S : List (Nat × Nat)) (T : List Nat) (r : Nat) : Prop := ∀ k a b, Pth S k a b → k ≤ r → Bit T a b
theorem Upto.lap {r : Nat} (hS : ∀ e ∈ S, e.1 < T.length) (u : Upto S T r) : Upto S (lap S T) (r + 1) := fun k a b p hk => by
  cases p with
  | one h => exact lap_edge S hS h (.inl rfl)
  | step h p => exact lap_edge S hS h (.inr (u _ _ _ p (by omega)))
/-- where a lap changes nothing all paths are there -/
theorem still_all (hS : ∀ e ∈ S, e.1 < T.length) (h : ∀ a b c, (a, b) ∈ S → c = b ∨ Bit T b c → Bit T a c) {a b : Nat} (p : Rch S a b) : Bit T a b := by
  obtain ⟨k, p⟩ := p
  induction p with
  | one h' => exact h _ _ _ h' (.inl rfl)
  | step h' p ih => exact h _ _ _ h' (.inr ih)
end
end Tl

namespace Tl
/-! ### signs in a row, steps -/
section
variable (sz : Nat → Nat)
def off : Nat → Nat
  | 0 => 0
  | c + 1 => off c + sz c
def rowOf (c : Nat) : List Sg := (List.range (sz c)).map fun i => (c, i)
def marks : Nat → List Sg
  | 0 => []
  | c + 1 => marks c ++ rowOf sz c
def ps (x : Sg) : Nat := off sz x.1 + x.2
/-- a sign of the births below n -/
def Ok (n : Nat) (x : Sg) : Prop := x.1 < n ∧ x.2 < sz x.1
end
section
variable {sz : Nat → Nat} {n : Nat} {x y : Sg}
theorem rowOf_len (c : Nat) : (rowOf sz c).length = sz c := by simp [rowOf]
theorem marks_len : ∀ n, (marks sz n).length = off sz n
  | 0 => rfl
  | n + 1 => by
    show (marks sz n ++ rowOf sz n).length = off sz n + sz n
    rw [List.length_append, marks_len n, rowOf_len]
theorem marks_at : ∀ {n : Nat} {x : Sg}, Ok sz n x → (marks sz n)[ps sz x]? = some x
  | 0, x, h => absurd h.1 (Nat.not_lt_zero _)
  | n + 1, x, h => by
    show (marks sz n ++ rowOf sz n)[ps sz x]? = some x
    by_cases hx : x.1 < n
    · have ih := marks_at (n := n) ⟨hx, h.2⟩
      obtain ⟨hl, _⟩ := List.getElem?_eq_some_iff.mp ih
      rw [List.getElem?_append_left hl]
      exact ih
    · have e : x.1 = n := by have := h.1; omega
      have e2 : ps sz x = (marks sz n).length + x.2 := by unfold ps; rw [marks_len, e]
      rw [e2, List.getElem?_append_right (by omega), Nat.add_sub_cancel_left]
      unfold rowOf
      rw [List.getElem?_map, List.getElem?_range (by rw [← e]; exact h.2)]
      show some (n, x.2) = some x
      rw [← e]
theorem mem_marks : ∀ {n : Nat} {x : Sg}, x ∈ marks sz n ↔ Ok sz n x
  | 0, x => by simp [marks, Ok]
  | n + 1, x => by
    show x ∈ marks sz n ++ rowOf sz n ↔ _
    rw [List.mem_append, mem_marks]
    unfold rowOf Ok
    simp only [List.mem_map, List.mem_range]
    constructor
    · rintro (⟨h1, h2⟩ | ⟨i, hi, rfl⟩)
      · exact ⟨by omega, h2⟩
      · exact ⟨by show n < n + 1; omega, hi⟩
    · rintro ⟨h1, h2⟩
      by_cases hx : x.1 < n
      · exact .inl ⟨hx, h2⟩
      · have e : x.1 = n := by omega
        refine .inr ⟨x.2, by rw [← e]; exact h2, ?_⟩
        rw [← e]
theorem ps_lt (h : Ok sz n x) : ps sz x < off sz n := by
  have := (List.getElem?_eq_some_iff.mp (marks_at h)).1
  rw [marks_len] at this
  exact this
theorem ps_inj (hx : Ok sz n x) (hy : Ok sz n y) (e : ps sz x = ps sz y) : x = y := by
  have h1 := marks_at hx
  rw [e, marks_at hy] at h1
  exact (Option.some.inj h1).symm
theorem sign_at {j : Nat} (h : j < off sz n) : ∃ x, Ok sz n x ∧ ps sz x = j := by
  have hj : j < (marks sz n).length := by rw [marks_len]; exact h
  have hm : (marks sz n)[j] ∈ marks sz n := List.getElem_mem hj
  have ok := mem_marks.mp hm
  refine ⟨_, ok, ?_⟩
  have key : ∀ {n j : Nat} {x : Sg}, (marks sz n)[j]? = some x → ps sz x = j := by
    intro n
    induction n with
    | zero => intro j x h; simp [marks] at h
    | succ n ih =>
      intro j x h
      have h' : (marks sz n ++ rowOf sz n)[j]? = some x := h
      by_cases hl : j < (marks sz n).length
      · rw [List.getElem?_append_left hl] at h'
        exact ih h'
      · rw [List.getElem?_append_right (by omega)] at h'
        unfold rowOf at h'
        rw [List.getElem?_map] at h'
        obtain ⟨i, hi, rfl⟩ := Option.map_eq_some_iff.mp h'
        have e := (List.getElem?_eq_some_iff.mp hi).2
        simp at e
        unfold ps
        show off sz n + i = j
        rw [marks_len] at e hl
        omega
  exact key (List.getElem?_eq_getElem hj)
end
section
variable (L R : Nat → Sg) (sz : Nat → Nat)
def stepsOf (c : Nat) : List (Nat × Nat) := (ps sz (L c), off sz c) :: ((List.range (sz c - 1)).map fun i => (off sz c + i, off sz c + i + 1)) ++ [(off sz c + sz c - 1, ps sz (R c))]
/-- the steps of the births 1 to n -/
def steps : Nat → List (Nat × Nat)
  | 0 => [(0, 1)]
  | n + 1 => steps n ++ stepsOf L R sz (n + 1)
/-- births below n, as a sheet may make them -/
structure Wv (n : Nat) : Prop extends Bs L R n where
  n0 : 0 < n
  s0 : sz 0 = 2
  s1 : ∀ c, 0 < c → c < n → 0 < sz c
  lo : ∀ c, 0 < c → c < n → (L c).2 < sz (L c).1
  ro : ∀ c, 0 < c → c < n → (R c).2 < sz (R c).1
end
section
variable {L R : Nat → Sg} {sz : Nat → Nat} {n : Nat}
theorem Wv.okL (w : Wv L R sz n) {c : Nat} (h0 : 0 < c) (h : c < n) : Ok sz n (L c) := ⟨Nat.lt_trans (w.l c h0 h) h, w.lo c h0 h⟩
theorem Wv.okR (w : Wv L R sz n) {c : Nat} (h0 : 0 < c) (h : c < n) : Ok sz n (R c) := ⟨Nat.lt_trans (w.r c h0 h) h, w.ro c h0 h⟩
theorem Wv.mono (w : Wv L R sz n) {m : Nat} (h0 : 0 < m) (h : m ≤ n) : Wv L R sz m :=
  { Bs.mono w.toBs h with n0 := h0, s0 := w.s0, s1 := fun c h1 h2 => w.s1 c h1 (by omega), lo := fun c h1 h2 => w.lo c h1 (by omega), ro := fun c h1 h2 => w.ro c h1 (by omega) }
theorem mem_steps {m : Nat} {e : Nat × Nat} : e ∈ steps L R sz m ↔ e = (0, 1) ∨ ∃ c, 0 < c ∧ c ≤ m ∧ e ∈ stepsOf L R sz c := by
  induction m with
  | zero =>
    show e ∈ [(0, 1)] ↔ _
    rw [List.mem_singleton]
    constructor
    · exact .inl
    · rintro (h | ⟨c, h1, h2, _⟩)
      · exact h
      · omega
  | succ m ih =>
    show e ∈ steps L R sz m ++ stepsOf L R sz (m + 1) ↔ _
    rw [List.mem_append, ih]
    constructor
    · rintro ((h | ⟨c, h1, h2, h3⟩) | h)
      · exact .inl h
      · exact .inr ⟨c, h1, by omega, h3⟩
      · exact .inr ⟨m + 1, by omega, by omega, h⟩
    · rintro (h | ⟨c, h1, h2, h3⟩)
      · exact .inl (.inl h)
      · by_cases hc : c ≤ m
        · exact .inl (.inr ⟨c, h1, hc, h3⟩)
        · have e : c = m + 1 := by omega
          rw [e] at h3
          exact .inr h3
theorem mem_stepsOf {c : Nat} {e : Nat × Nat} : e ∈ stepsOf L R sz c ↔ e = (ps sz (L c), off sz c) ∨ (∃ i, i < sz c - 1 ∧ e = (off sz c + i, off sz c + i + 1)) ∨ e = (off sz c + sz c - 1, ps sz (R c)) := by
  unfold stepsOf
  simp only [List.cons_append, List.mem_cons, List.mem_append, List.mem_map, List.mem_range, List.not_mem_nil, or_false]
  constructor
  · rintro (h | ⟨i, hi, rfl⟩ | h)
    · exact .inl h
    · exact .inr (.inl ⟨i, hi, rfl⟩)
    · exact .inr (.inr h)
  · rintro (h | ⟨i, hi, rfl⟩ | h)
    · exact .inl h
    · exact .inr (.inl ⟨i, hi, rfl⟩)
    · exact .inr (.inr h)
/-- each step is one of the order -/
theorem step_A (w : Wv L R sz n) {a b : Nat} (h : (a, b) ∈ steps L R sz (n - 1)) : ∃ x y, Ok sz n x ∧ Ok sz n y ∧ ps sz x = a ∧ ps sz y = b ∧ A L R x y := by
  have n0 := w.n0
  rcases mem_steps.mp h with h | ⟨c, h1, h2, h3⟩
  · cases h
    refine ⟨(0, 0), (0, 1), ⟨n0, by rw [w.s0]; decide⟩, ⟨n0, by rw [w.s0]; decide⟩, rfl, rfl, .same rfl (by decide)⟩
  · have hc : c < n := by omega
    have hs := w.s1 c h1 hc
    rcases mem_stepsOf.mp h3 with e | ⟨i, hi, e⟩ | e
    · cases e
      exact ⟨L c, (c, 0), w.okL h1 hc, ⟨hc, hs⟩, rfl, rfl, .lEq (w.l c h1 hc) rfl⟩
    · cases e
      exact ⟨(c, i), (c, i + 1), ⟨hc, by show i < sz c; omega⟩, ⟨hc, by show i + 1 < sz c; omega⟩, rfl, by unfold ps; show off sz c + (i + 1) = _; omega, .same rfl (by show i < i + 1; omega)⟩
    · cases e
      exact ⟨(c, sz c - 1), R c, ⟨hc, by show sz c - 1 < sz c; omega⟩, w.okR h1 hc, by unfold ps; show off sz c + (sz c - 1) = _; omega, rfl, .rEq (w.r c h1 hc) rfl⟩
theorem rch_row (w : Wv L R sz n) {c : Nat} (hc : c < n) : ∀ {i j : Nat}, i < j → j < sz c → Rch (steps L R sz (n - 1)) (off sz c + i) (off sz c + j) := by
  intro i j hij
  obtain ⟨d, rfl⟩ : ∃ d, j = i + 1 + d := ⟨j - (i + 1), by omega⟩
  clear hij
  have one : ∀ i, i + 1 < sz c → Rch (steps L R sz (n - 1)) (off sz c + i) (off sz c + i + 1) := by
    intro i hi
    refine ⟨1, .one (mem_steps.mpr ?_)⟩
    by_cases h0 : c = 0
    · subst h0
      have z := w.s0
      have e : i = 0 := by omega
      subst e
      exact .inl rfl
    · exact .inr ⟨c, by omega, by omega, mem_stepsOf.mpr (.inr (.inl ⟨i, by omega, rfl⟩))⟩
  induction d with
  | zero => intro h; exact one i h
  | succ d ih =>
    intro h
    have p := ih (by omega)
    have q := one (i + 1 + d) (by omega)
    exact p.tr q
theorem rch_A (w : Wv L R sz n) {x y : Sg} (a : A L R x y) : Ok sz n x → Ok sz n y → Rch (steps L R sz (n - 1)) (ps sz x) (ps sz y) := by
  have toR : ∀ {x : Sg}, Ok sz n x → 0 < x.1 → Rch (steps L R sz (n - 1)) (ps sz x) (ps sz (R x.1)) := by
    intro x hx h0
    have e : Rch (steps L R sz (n - 1)) (off sz x.1 + sz x.1 - 1) (ps sz (R x.1)) := ⟨1, .one (mem_steps.mpr (.inr ⟨x.1, h0, by have := hx.1; omega, mem_stepsOf.mpr (.inr (.inr rfl))⟩))⟩
    by_cases hl : x.2 = sz x.1 - 1
    · have e2 : ps sz x = off sz x.1 + sz x.1 - 1 := by unfold ps; have := hx.2; omega
      rw [e2]
      exact e
    · have p := rch_row w hx.1 (i := x.2) (j := sz x.1 - 1) (by have := hx.2; omega) (by have := hx.2; omega)
      have e2 : off sz x.1 + (sz x.1 - 1) = off sz x.1 + sz x.1 - 1 := by have := hx.2; omega
      rw [e2] at p
      exact p.tr e
  have toL : ∀ {y : Sg}, Ok sz n y → 0 < y.1 → Rch (steps L R sz (n - 1)) (ps sz (L y.1)) (ps sz y) := by
    intro y hy h0
    have e : Rch (steps L R sz (n - 1)) (ps sz (L y.1)) (off sz y.1) := ⟨1, .one (mem_steps.mpr (.inr ⟨y.1, h0, by have := hy.1; omega, mem_stepsOf.mpr (.inl rfl)⟩))⟩
    by_cases hl : y.2 = 0
    · have e2 : ps sz y = off sz y.1 := by unfold ps; omega
      rw [e2]
      exact e
    · exact e.tr (rch_row w hy.1 (i := 0) (j := y.2) (by omega) hy.2)
  induction a with
  | @same x y h i =>
    intro hx hy
    unfold ps
    rw [← h]
    exact rch_row w hx.1 i (by rw [h]; exact hy.2)
  | @rEq x y h e => intro hx hy; exact e ▸ toR hx (by omega)
  | @rGo x y h a ih => intro hx hy; exact (toR hx (by omega)).tr (ih (w.okR (by omega) hx.1) hy)
  | @lEq x y h e => intro hx hy; exact e ▸ toL hy (by omega)
  | @lGo x y h a ih => intro hx hy; exact (ih hx (w.okL (by omega) hy.1)).tr (toL hy (by omega))
theorem A_rch (w : Wv L R sz n) {x y : Sg} (hx : Ok sz n x) (hy : Ok sz n y) (p : Rch (steps L R sz (n - 1)) (ps sz x) (ps sz y)) : A L R x y := by
  obtain ⟨k, p⟩ := p
  have key : ∀ {k a b}, Pth (steps L R sz (n - 1)) k a b → ∃ u v, Ok sz n u ∧ Ok sz n v ∧ ps sz u = a ∧ ps sz v = b ∧ A L R u v := by
    intro k a b p
    induction p with
    | one h => exact step_A w h
    | step h p ih =>
      obtain ⟨u, v, h1, h2, h3, h4, h5⟩ := step_A w h
      obtain ⟨u', v', g1, g2, g3, g4, g5⟩ := ih
      have e := ps_inj h2 g1 (h4.trans g3.symm)
      subst e
      exact ⟨u, v', h1, g2, h3, g4, w.tr h1.1 h2.1 g2.1 h5 g5⟩
  obtain ⟨u, v, h1, h2, h3, h4, h5⟩ := key p
  have e1 := ps_inj hx h1 h3.symm
  have e2 := ps_inj hy h2 h4.symm
  subst e1 e2
  exact h5
theorem rch_iff (w : Wv L R sz n) {x y : Sg} (hx : Ok sz n x) (hy : Ok sz n y) : Rch (steps L R sz (n - 1)) (ps sz x) (ps sz y) ↔ A L R x y := ⟨A_rch w hx hy, fun a => rch_A w a hx hy⟩
theorem step_lt (w : Wv L R sz n) {a b : Nat} (h : (a, b) ∈ steps L R sz (n - 1)) : a < off sz n ∧ b < off sz n := by
  obtain ⟨x, y, hx, hy, rfl, rfl, _⟩ := step_A w h
  exact ⟨ps_lt hx, ps_lt hy⟩
theorem path_bound (w : Wv L R sz n) {k a b : Nat} (p : Pth (steps L R sz (n - 1)) k a b) : k + 1 ≤ off sz n := by
  refine Pth.bound (lt := fun a b => ∃ x y, Ok sz n x ∧ Ok sz n y ∧ ps sz x = a ∧ ps sz y = b ∧ A L R x y) (fun a b h => ⟨step_A w h, step_lt w h⟩) (fun a b c ha hb hc h1 h2 => ?_) (fun a h => ?_) p
  · obtain ⟨x, y, hx, hy, rfl, rfl, a1⟩ := h1
    obtain ⟨y', z, hy', hz, e, rfl, a2⟩ := h2
    have e' := ps_inj hy' hy e
    subst e'
    exact ⟨x, z, hx, hz, rfl, rfl, w.tr hx.1 hy.1 hz.1 a1 a2⟩
  · obtain ⟨x, y, hx, hy, rfl, e, a1⟩ := h
    have e' := ps_inj hy hx e
    subst e'
    exact A.irr a1
theorem steps_len (w : Wv L R sz n) : off sz n ≤ (steps L R sz (n - 1)).length + 1 := by
  have key : ∀ m, m < n → off sz (m + 1) ≤ (steps L R sz m).length + 1 := by
    intro m
    induction m with
    | zero =>
      intro _
      show 0 + sz 0 ≤ 1 + 1
      rw [w.s0]
      decide
    | succ m ih =>
      intro h
      have z := ih (by omega)
      show off sz (m + 1) + sz (m + 1) ≤ (steps L R sz m ++ stepsOf L R sz (m + 1)).length + 1
      rw [List.length_append]
      have e : (stepsOf L R sz (m + 1)).length = sz (m + 1) - 1 + 2 := by
        unfold stepsOf
        simp
      rw [e]
      omega
  have n0 := w.n0
  have z := key (n - 1) (by omega)
  rw [Nat.sub_add_cancel n0] at z
  exact z
/-- the table tells the order -/
def Tells (L R : Nat → Sg) (sz : Nat → Nat) (n : Nat) (T : List Nat) : Prop := T.length = off sz n ∧ ∀ x y, Ok sz n x → Ok sz n y → (Bit T (ps sz x) (ps sz y) ↔ A L R x y)
/-- the table under way: sound, all paths of at most r steps -/
structure Under (L R : Nat → Sg) (sz : Nat → Nat) (n : Nat) (T : List Nat) (r : Nat) : Prop where
  len : T.length = off sz n
  snd : ∀ a b, Bit T a b → Rch (steps L R sz (n - 1)) a b
  upto : Upto (steps L R sz (n - 1)) T r
theorem Under.zero : Under L R sz n (List.replicate (off sz n) 0) 0 := by
  refine ⟨List.length_replicate, fun a b h => ?_, fun k a b p hk => ?_⟩
  · exfalso
    unfold Bit at h
    have e : (List.replicate (off sz n) 0).getD a 0 = 0 := by
      simp [List.getD, List.getElem?_replicate]
      split <;> rfl
    rw [e] at h
    simp at h
  · cases p <;> omega
theorem Under.fst (w : Wv L R sz n) {T : List Nat} {r : Nat} (u : Under L R sz n T r) : ∀ e ∈ steps L R sz (n - 1), e.1 < T.length := fun e he => by
  rw [u.len]
  exact (step_lt w (a := e.1) (b := e.2) he).1
theorem Under.lap (w : Wv L R sz n) {T : List Nat} {r : Nat} (u : Under L R sz n T r) : Under L R sz n (lap (steps L R sz (n - 1)) T) (r + 1) :=
  ⟨(lap_len _ _).trans u.len, lap_sound _ (fun _ h => h) (u.fst w) u.snd, u.upto.lap (u.fst w)⟩
theorem Under.done (w : Wv L R sz n) {T : List Nat} {r : Nat} (u : Under L R sz n T r) (h : off sz n ≤ r + 1) : Tells L R sz n T :=
  ⟨u.len, fun x y hx hy => ⟨fun b => A_rch w hx hy (u.snd _ _ b), fun a => by
    obtain ⟨k, p⟩ := rch_A w a hx hy
    have z := path_bound w p
    exact u.upto k _ _ p (by omega)⟩⟩
theorem Under.still (w : Wv L R sz n) {T : List Nat} {r : Nat} (u : Under L R sz n T r) (h : ∀ a b c, (a, b) ∈ steps L R sz (n - 1) → c = b ∨ Bit T b c → Bit T a c) : Tells L R sz n T :=
  ⟨u.len, fun x y hx hy => ⟨fun b => A_rch w hx hy (u.snd _ _ b), fun a => still_all (u.fst w) h (rch_A w a hx hy)⟩⟩
end
end Tl

namespace Dk
open PySem PySem.Spec PyProof.Rows L2
/-! ### what never runs -/
def tNv : TE := fun _ _ _ => False
theorem pe_never {X : Cx} {e : Expr} : PE X e tNv := ⟨fun _ _ _ _ _ _ h => h.elim⟩
/-! ### keywords alone -/
section
variable {X : Cx} {CX : CXT} {k : Nat} {f : Addr} {fd : FuncData} {ps ks : List Str} {sp : Sp} {E : XK} {x : Str} {p pos : Pos} {kws : List Keyword} {tk : TA} {g : List Value → List Value → List Value} {gV : List V → List V → List V}
def tCallK0 (sp : Sp) (gV : List V → List V → List V) (E : XK) (tk : TA) : TE := fun σ H Q => tk σ H fun zs H2 => sp (gV [] zs) H2 Q E
theorem pe_callK0 (F : FnOk X.prog X.w X.K X.mg X.base CX k f fd ps sp) (hr : Room k X.A) (hg : Gl X x) (hm : X.mg x = some (.ref f)) (hk : PySem.W.keepIn X.K (.ref f) = true) (hb : KBinds X.K fd ps ks g gV) (hx : Passes CX X E)
    (hkw : PK X kws tk) (hall : (backToKw pos (keywordEach kws X.env)).all (·.1.isSome) = true := by rfl) (hks : (backToKw pos (keywordEach kws X.env)).filterMap (·.1) = ks := by rfl)
    (hdb : (x == ("__debug__" : Str)) = false := by decide)
    (hpl : ((backTo pos (starEach [] X.env)).any (·.1) || (backToKw pos (keywordEach kws X.env)).any (·.1.isNone)) = false := by rfl) :
    PE X (.Call (.Name x p) [] kws pos) (tCallK0 sp gV E tk) := by
  refine ⟨fun pins s σ H Q I h => ?_⟩
  refine wpAny_Call_Name_kw (ld_glob I hg hm ?_ hdb)
  refine PySem.W.callWith_KW0 (h₀ := X.base) I.ok.mod.kin hk hall (thn (hkw.run pos pins s σ H _ I h) fun ws s2 ⟨zs, H2, I2, rz, q2⟩ => ⟨I2.kIn, ?_⟩) hpl
  rw [hks]
  exact run_fnk (us := []) (vs := []) F hr hb hx I2 .nil rz q2
theorem r_callK0 {σ : L2.St} {H : Hp} {Q : VK} (h : tk σ H fun zs H2 => sp (gV [] zs) H2 Q E) : tCallK0 sp gV E tk σ H Q := h
end
/-- three values put in another order -/
def p201 {α : Type} : List α → List α → List α
  | [], [a, b, c] => [b, c, a]
  | _, _ => []
def p210 {α : Type} : List α → List α → List α
  | [], [a, b, c] => [c, b, a]
  | _, _ => []
def p120 {α : Type} : List α → List α → List α
  | [], [a, b, c] => [c, a, b]
  | _, _ => []
theorem p201_rel {vs zs : List V} {us ws : List Value} (r : Vals vs us) (q : Vals zs ws) : Vals (p201 vs zs) (p201 us ws) := by
  cases r with
  | cons => exact .nil
  | nil => rcases q with _ | ⟨a, _ | ⟨b, _ | ⟨c, _ | _⟩⟩⟩
           · exact .nil
           · exact .nil
           · exact .nil
           · exact .cons b (.cons c (.cons a .nil))
           · exact .nil
theorem p210_rel {vs zs : List V} {us ws : List Value} (r : Vals vs us) (q : Vals zs ws) : Vals (p210 vs zs) (p210 us ws) := by
  cases r with
  | cons => exact .nil
  | nil => rcases q with _ | ⟨a, _ | ⟨b, _ | ⟨c, _ | _⟩⟩⟩
           · exact .nil
           · exact .nil
           · exact .nil
           · exact .cons c (.cons b (.cons a .nil))
           · exact .nil
theorem p120_rel {vs zs : List V} {us ws : List Value} (r : Vals vs us) (q : Vals zs ws) : Vals (p120 vs zs) (p120 us ws) := by
  cases r with
  | cons => exact .nil
  | nil => rcases q with _ | ⟨a, _ | ⟨b, _ | ⟨c, _ | _⟩⟩⟩
           · exact .nil
           · exact .nil
           · exact .nil
           · exact .cons c (.cons a (.cons b .nil))
           · exact .nil
def rAbs : List V → Hp → VK → Prop := fun xs H Q => ∃ i, xs = [.int i] ∧ Q (.int (if i < 0 then -i else i)) H
theorem call_absU {X : Cx} : CallR X (.builtin "abs") rAbs := call_abs
/-! ### steps -/
section
variable {K : PySem.W.Frag} {σ : L2.St} {H H' : Hp} {Q : VK} {v x y : V} {i j : Int}
theorem r_bool {b : Bool} (q : Q (.int (if b then 1 else 0)) H) : rInt1 [.bl b] H Q := .inr ⟨b, rfl, q⟩
theorem r_abs (q : Q (.int (i.natAbs : Nat)) H) : rAbs [.int i] H Q := ⟨i, rfl, by
  have e : (if i < 0 then -i else i) = (i.natAbs : Int) := by split <;> omega
  rw [e]
  exact q⟩
theorem r_catT {p q : Addr} {xs ys : List V} (hp : SqT K H p xs) (hq : SqT K H q ys) (nx : xs ≠ []) (ny : ys ≠ []) (hz : xs.length + ys.length ≤ 1000) (k : ∀ l, H l = none → Q (.ref l) (upd H l (.tup (xs ++ ys)))) : rAddU K (.ref p) (.ref q) H Q :=
  .inr (.inr (.inr ⟨p, q, xs, ys, rfl, rfl, hp, hq, by rw [sizeLine_eq]; omega, fun z => absurd z nx, fun _ z => absurd z ny, fun _ _ => k⟩))
theorem r_pop0 {p : Addr} {xs : List V} (h : H p = some (.lst (x :: xs))) (q : Q x (upd H p (.lst xs))) : rPopAt (.ref p) [.int 0] H Q :=
  ⟨p, x :: xs, 0, 0, x, rfl, rfl, h, by decide, by decide, by
    show (if _ then _ else _) = _
    simp, rfl, q⟩
theorem r_isiT2 {a n m : String} {b c : Bool} {tp : Addr} (hT : H tp = some (.tup [.ty n, .ty m])) (ty : TyX K H x (.type a)) (e1 : kitB a n = some b) (e2 : kitB a m = some c) (q : Q (.bl (b || c)) H) : rIsiT K [x, .ref tp] H Q := by
  refine ⟨x, tp, [.ty n, .ty m], .type a, [.type n, .type m], b || c, rfl, hT, .cons (.ty n) (.cons (.ty m) .nil), ty, ?_, q⟩
  refine kitAny_cons (kit_ty e1) (r := b || c) (fun hb => ?_) (fun hb => by rw [hb]; rfl)
  subst hb
  refine kitAny_cons (kit_ty e2) (fun hc => ?_) (fun hc => by rw [hc]; rfl)
  subst hc
  exact kitAny_nil
end
theorem r_eqP {x y : V} {H : Hp} {Q : VK} (h : scal x y = true) (q : Q (.bl (decide (x = y))) H) : rEq x y H Q := ⟨h, q⟩
theorem r_gunl {K : PySem.W.Frag} {σ : L2.St} {H : Hp} {N : L2.St → Hp → Prop} {vs : List V} {u : TGs} {n : Nat} {a : Addr} (h : SqL K H a vs) (hl : vs.length = n) (k : u vs σ H N) : gUnl K n u (.ref a) σ H N := ⟨a, vs, rfl, h, hl, k⟩
theorem r_slT {K : PySem.W.Frag} {H : Hp} {Q : VK} {p : Addr} {xs : List V} {n : Nat} (h : SqT K H p xs) (k1 : xs.length ≤ n → Q (.ref p) H) (k2 : ∀ l, H l = none → Q (.ref l) (upd H l (.tup (xs.take n)))) : rSlU K (.ref p) none (some (n : Int)) H Q := by
  refine .inr (.inr ⟨p, xs, rfl, h, fun z => k1 ?_, fun _ l hl => ?_⟩)
  · have e := z.2
    rw [HT.sIx_nat] at e
    omega
  · rw [cutV_to]
    exact k2 l hl
theorem cutV_from (xs : List V) (n : Nat) : cutV xs (some (n : Int)) none = xs.drop n := by
  unfold cutV
  rw [HT.sIx_nat, HT.sIx_none]
  by_cases h : n ≤ xs.length
  · rw [Nat.min_eq_left h, List.take_of_length_le (by rw [List.length_drop]; omega)]
  · rw [Nat.min_eq_right (by omega), Nat.sub_self, List.take_zero, List.drop_eq_nil_of_le (by omega)]
theorem r_break {σ : L2.St} {H : Hp} {D : Ends} (q : D.bk σ H) : tBreak D σ H := q
theorem r_yes {σ : L2.St} {H : Hp} {QB : Bool → Hp → Prop} (q : QB true H) : tYes σ H QB := q
theorem _root_.L2.Room.units65 {k : Nat} {A : Around} (r : L2.Room k A) : A.units + 65 < cLine := by
  have := r.un
  omega
theorem r_lcRo {ta : TA} {g : TG} {tt : TT} {te : TE} {vs : List Nat} {σ : L2.St} {H : Hp} {Q : VK} (h : ta σ H fun us H1 => ∃ j : Int, us = [.int j] ∧ -(2 ^ 62) ≤ j ∧ j < 2 ^ 62 ∧ ∀ D, H1 D = none → ∃ W : Nat → Nat → Hp → Prop, (∃ m, W 0 m (upd H1 D (.lst []))) ∧ ∀ i m H, W i m H →
  ((Itr 0 j.toNat).stop i H ∧ Q (.ref D) H) ∨ ((Itr 0 j.toNat).go i H ∧ ∃ Nx : Hp → Prop, (∀ H', Nx H' → ∃ m', m' < m ∧ W (i + 1) m' H') ∧ ∀ x H', (Itr 0 j.toNat).yld i H x H' → g x (wipe σ vs) H' fun σ2 H2 => wipe σ2 vs = wipe σ vs ∧ tt σ2 H2 fun b H3 =>
    if b = true then te σ2 H3 fun y H4 => ∃ acc, H4 D = some (.lst acc) ∧ acc.length < sizeLine ∧ Nx (upd H4 D (.lst (acc ++ [y]))) else Nx H3)) : tLc (iRng1 ta) g tt te vs σ H Q := h
/-- [.. for x in range(n)] -/
theorem l_lcR {n : Int} {g : TG} {tt : TT} {te : TE} {vs : List Nat} {σ : L2.St} {H1 : Hp} {Qd : Addr → Hp → Prop} (n0 : -1000000 ≤ n) (n1 : n ≤ 1000000) (Pv : Addr → Nat → Hp → Prop) (h0 : ∀ D, H1 D = none → Pv D 0 (upd H1 D (.lst [])))
    (hs : ∀ D (i : Nat) H, H1 D = none → (i : Int) < n → Pv D i H → g (.int (i : Nat)) (wipe σ vs) H fun σ2 H2 => wipe σ2 vs = wipe σ vs ∧ tt σ2 H2 fun b H3 =>
      if b = true then te σ2 H3 fun y H4 => ∃ acc, H4 D = some (.lst acc) ∧ acc.length < sizeLine ∧ Pv D (i + 1) (upd H4 D (.lst (acc ++ [y]))) else Pv D (i + 1) H3) (hd : ∀ D H, H1 D = none → Pv D n.toNat H → Qd D H) :
    ∃ j : Int, [V.int n] = [.int j] ∧ -(2 ^ 62) ≤ j ∧ j < 2 ^ 62 ∧ ∀ D, H1 D = none → ∃ W : Nat → Nat → Hp → Prop, (∃ m, W 0 m (upd H1 D (.lst []))) ∧ ∀ i m H, W i m H →
  ((Itr 0 j.toNat).stop i H ∧ Qd D H) ∨ ((Itr 0 j.toNat).go i H ∧ ∃ Nx : Hp → Prop, (∀ H', Nx H' → ∃ m', m' < m ∧ W (i + 1) m' H') ∧ ∀ x H', (Itr 0 j.toNat).yld i H x H' → g x (wipe σ vs) H' fun σ2 H2 => wipe σ2 vs = wipe σ vs ∧ tt σ2 H2 fun b H3 =>
    if b = true then te σ2 H3 fun y H4 => ∃ acc, H4 D = some (.lst acc) ∧ acc.length < sizeLine ∧ Nx (upd H4 D (.lst (acc ++ [y]))) else Nx H3) := by
  refine ⟨n, rfl, by omega, by omega, fun D hD => lc_range (lo := 0) (Pv D) (h0 D hD) (fun i H hi p => ?_) fun H p => hd D H hD p⟩
  have z := hs D i H hD (by omega) p
  rw [Int.zero_add]
  exact z
/-- for c in range(1, n) -/
theorem l_R1n {n : Nat} {g : TG} {tb : TS} {σ : L2.St} {H : Hp} {D : Ends} (h1 : 1 ≤ n) (h2 : n ≤ 1000000) (Pv : Nat → L2.St → Hp → Prop) (p0 : Pv 1 σ H)
    (ht : ∀ (c : Nat) σ H, 1 ≤ c → c < n → Pv c σ H → g (.int (c : Nat)) σ H fun σ2 H2 => tb { D with nx := Pv (c + 1), ct := Pv (c + 1), bk := D.nx } σ2 H2) (hd : ∀ σ H, Pv n σ H → D.nx σ H) :
    ∃ i j : Int, [V.int 1, V.int (n : Nat)] = [.int i, .int j] ∧ (-(2 ^ 62) ≤ i ∧ i < 2 ^ 62 ∧ -(2 ^ 62) ≤ j ∧ j < 2 ^ 62) ∧ LoopW (Itr i (j - i).toNat) g tb D σ H := by
  refine ⟨1, n, rfl, ⟨by omega, by omega, by omega, by omega⟩, for_range (fun i => Pv (i + 1)) p0 (fun i σ H hi p => ?_) fun σ H p => hd σ H ?_⟩
  · have z := ht (i + 1) σ H (by omega) (by omega) p
    rw [show (1 : Int) + (i : Nat) = ((i + 1 : Nat) : Int) by omega]
    exact z
  · have e : ((n : Int) - 1).toNat + 1 = n := by omega
    rw [e] at p
    exact p
theorem r_lcLo {K : PySem.W.Frag} {tl : TE} {g : TG} {tt : TT} {te : TE} {vs : List Nat} {σ : L2.St} {H : Hp} {Q : VK} (h : tl σ H fun x H1 => ∃ a, x = .ref a ∧ (∃ xs, SqL K H1 a xs) ∧ ∀ D, H1 D = none → ∃ W : Nat → Nat → Hp → Prop, (∃ m, W 0 m (upd H1 D (.lst []))) ∧ ∀ i m H, W i m H →
  ((Itl K a).stop i H ∧ Q (.ref D) H) ∨ ((Itl K a).go i H ∧ ∃ Nx : Hp → Prop, (∀ H', Nx H' → ∃ m', m' < m ∧ W (i + 1) m' H') ∧ ∀ x H', (Itl K a).yld i H x H' → g x (wipe σ vs) H' fun σ2 H2 => wipe σ2 vs = wipe σ vs ∧ tt σ2 H2 fun b H3 =>
    if b = true then te σ2 H3 fun y H4 => ∃ acc, H4 D = some (.lst acc) ∧ acc.length < sizeLine ∧ Nx (upd H4 D (.lst (acc ++ [y]))) else Nx H3)) : tLc (iList K tl) g tt te vs σ H Q := h
theorem l_lcL {K : PySem.W.Frag} {a : Addr} {xs : List V} {g : TG} {tt : TT} {te : TE} {vs : List Nat} {σ : L2.St} {H1 : Hp} {Qd : Addr → Hp → Prop} (hs0 : SqL K H1 a xs) (Pv : Addr → Nat → Hp → Prop) (h0 : ∀ D, H1 D = none → Pv D 0 (upd H1 D (.lst []))) (hl : ∀ D i H, Pv D i H → SqL K H a xs)
    (hs : ∀ D (i : Nat) x H, H1 D = none → xs[i]? = some x → Pv D i H → g x (wipe σ vs) H fun σ2 H2 => wipe σ2 vs = wipe σ vs ∧ tt σ2 H2 fun b H3 =>
      if b = true then te σ2 H3 fun y H4 => ∃ acc, H4 D = some (.lst acc) ∧ acc.length < sizeLine ∧ Pv D (i + 1) (upd H4 D (.lst (acc ++ [y]))) else Pv D (i + 1) H3) (hd : ∀ D H, H1 D = none → Pv D xs.length H → Qd D H) :
    ∃ b, V.ref a = .ref b ∧ (∃ xs, SqL K H1 b xs) ∧ ∀ D, H1 D = none → ∃ W : Nat → Nat → Hp → Prop, (∃ m, W 0 m (upd H1 D (.lst []))) ∧ ∀ i m H, W i m H →
  ((Itl K b).stop i H ∧ Qd D H) ∨ ((Itl K b).go i H ∧ ∃ Nx : Hp → Prop, (∀ H', Nx H' → ∃ m', m' < m ∧ W (i + 1) m' H') ∧ ∀ x H', (Itl K b).yld i H x H' → g x (wipe σ vs) H' fun σ2 H2 => wipe σ2 vs = wipe σ vs ∧ tt σ2 H2 fun b H3 =>
    if b = true then te σ2 H3 fun y H4 => ∃ acc, H4 D = some (.lst acc) ∧ acc.length < sizeLine ∧ Nx (upd H4 D (.lst (acc ++ [y]))) else Nx H3) :=
  ⟨a, rfl, ⟨xs, hs0⟩, fun D hD => lc_list (Pv D) (h0 D hD) (fun i H _ p => hl D i H p) (fun i x H hx p => hs D i x H hD hx p) fun H p => hd D H hD p⟩
/-- a test whose outcome does not matter -/
theorem any_test {tt : TT} {σ : L2.St} {H : Hp} {QB : Bool → Hp → Prop} {S : Bool → Hp → Prop} (h : ∀ QB : Bool → Hp → Prop, (∀ c H1, S c H1 → QB c H1) → tt σ H QB) (k : ∀ c H1, S c H1 → QB c H1) : tt σ H QB := h QB k
theorem any_val {te : TE} {σ : L2.St} {H : Hp} {Q : VK} {S : V → Hp → Prop} (h : ∀ Q : VK, (∀ v H1, S v H1 → Q v H1) → te σ H Q) (k : ∀ v H1, S v H1 → Q v H1) : te σ H Q := h Q k
/-! ### bits -/
theorem or_val (x b y : Nat) : Builtin.bitOr (Builtin.bitOr (x : Int) (1 * 2 ^ ((b : Int)).toNat)) (y : Int) = ((x ||| 1 <<< b ||| y : Nat) : Int) := by
  have e : (1 * 2 ^ ((b : Int)).toNat : Int) = ((1 <<< b : Nat) : Int) := by
    rw [Int.toNat_natCast, Nat.one_shiftLeft]
    push_cast
    omega
  have e1 : Builtin.bitOr (x : Int) ((1 <<< b : Nat) : Int) = ((x ||| 1 <<< b : Nat) : Int) := by
    rw [Bits.bitOr_pp (Int.natCast_nonneg _) (Int.natCast_nonneg _), Int.toNat_natCast, Int.toNat_natCast]
  rw [e, e1, Bits.bitOr_pp (Int.natCast_nonneg _) (Int.natCast_nonneg _), Int.toNat_natCast, Int.toNat_natCast]
theorem bit_val (x k : Nat) : decide (V.int (Builtin.bitAnd ((x : Int) / 2 ^ ((k : Int)).toNat) 1) = V.int 1) = x.testBit k := by
  have e : Builtin.bitAnd ((x : Int) / 2 ^ ((k : Int)).toNat) 1 = (x : Int) / 2 ^ k % 2 := by
    have z := Bits.bit_at (x := (x : Int)) k
    have hp : (0 : Int) ≤ 2 ^ k := Int.pow_nonneg (by decide)
    rw [Int.fdiv_eq_ediv_of_nonneg _ hp] at z
    rw [Int.toNat_natCast]
    exact z
  rw [e, Bool.eq_iff_iff, decide_eq_true_iff, Nat.testBit_eq_decide_div_mod_eq, decide_eq_true_iff]
  have e2 : (x : Int) / 2 ^ k % 2 = ((x / 2 ^ k % 2 : Nat) : Int) := by push_cast; rfl
  rw [e2]
  constructor
  · intro h
    have := V.int.inj h
    omega
  · intro h
    rw [h]
    rfl
/-! ### the box of the draws: a number and a list of heaps -/
def M31 : Int := 2147483629
structure Bx (H : Hp) (b h : Addr) : Prop where
  ne : b ≠ h
  ex : ∃ (z : Int) (ns : List Int), H b = some (.lst [.int z, .ref h]) ∧ 0 ≤ z ∧ z < M31 ∧ H h = some (.lst (ns.map V.int)) ∧ ns.length ≤ 63
structure Dr2 (b h : Addr) (H H' : Hp) : Prop where
  hh : ∀ x o, x ≠ b → x ≠ h → H x = some o → H' x = some o
  st : Bx H' b h
abbrev A2 (b h : Addr) : Addr → Prop := fun x => x = b ∨ x = h
structure W2 (b h : Addr) (G H : Hp) : Prop where
  g : Ex G H
  nb : G b = none
  nh : G h = none
  st : Bx H b h
section
variable {A : Addr → Prop} {b h p : Addr} {G H G1 H1 H2 : Hp} {o : HO}
theorem Bx.gb (s : Bx H b h) : ∃ o, H b = some o := by
  obtain ⟨_, z, ns, h1, _⟩ := s
  exact ⟨_, h1⟩
theorem Bx.gh (s : Bx H b h) : ∃ o, H h = some o := by
  obtain ⟨_, z, ns, _, _, _, h1, _⟩ := s
  exact ⟨_, h1⟩
theorem Bx.up (s : Bx H b h) (e : Ex H H1) : Bx H1 b h := by
  obtain ⟨n, z, ns, h1, h2, h3, h4, h5⟩ := s
  exact ⟨n, z, ns, e _ _ h1, h2, h3, e _ _ h4, h5⟩
theorem Bx.nb (s : Bx H b h) (hp : H p = none) : p ≠ b := fun z => by
  obtain ⟨o, e⟩ := s.gb
  rw [← z, hp] at e
  cases e
theorem Bx.nh (s : Bx H b h) (hp : H p = none) : p ≠ h := fun z => by
  obtain ⟨o, e⟩ := s.gh
  rw [← z, hp] at e
  cases e
theorem Bx.put (s : Bx H b h) (h1 : p ≠ b) (h2 : p ≠ h) : Bx (upd H p o) b h := by
  obtain ⟨n, z, ns, e1, e2, e3, e4, e5⟩ := s
  exact ⟨n, z, ns, by rw [upd_ne (Ne.symm h1)]; exact e1, e2, e3, by rw [upd_ne (Ne.symm h2)]; exact e4, e5⟩
theorem Bx.na (s : Bx H b h) (hp : H p = none) : ¬ A2 b h p := fun z => z.elim (s.nb hp) (s.nh hp)
theorem Dr2.refl (s : Bx H b h) : Dr2 b h H H := ⟨fun _ _ _ _ e => e, s⟩
theorem Dr2.trans (x : Dr2 b h H H1) (y : Dr2 b h H1 H2) : Dr2 b h H H2 := ⟨fun u o n m e => y.hh u o n m (x.hh u o n m e), y.st⟩
theorem Dr2.ex (s : Bx H b h) (e : Ex H H1) : Dr2 b h H H1 := ⟨fun u o _ _ q => e u o q, s.up e⟩
theorem Dr2.then (x : Dr2 b h H H1) (e : Ex H1 H2) : Dr2 b h H H2 := x.trans (.ex x.st e)
theorem Dr2.new (x : Dr2 b h H H1) (hp : H1 p = none) : Dr2 b h H (upd H1 p o) := x.then (Same.new (Same.refl H1) hp)
theorem Dr2.mut (x : Dr2 b h H H1) (hp : H p = none) (h1 : p ≠ b) (h2 : p ≠ h) : Dr2 b h H (upd H1 p o) :=
  ⟨fun u q n m e => by rw [upd_ne (ne_of_none e hp)]; exact x.hh u q n m e, x.st.put h1 h2⟩
theorem Dr2.fresh (x : Dr2 b h H H1) (hp : H1 p = none) : H p = none := by
  cases e : H p with
  | none => rfl
  | some o =>
    rw [x.hh p o (x.st.nb hp) (x.st.nh hp) e] at hp
    cases hp
theorem Dr2.gr (g : Ex G H) (nb : G b = none) (nh : G h = none) (s : Bx H b h) (d : Dr2 b h H H1) : Gr (A2 b h) G H G H1 where
  gg := Same.refl G
  gh := fun u x e => d.hh u x (ne_of_none e nb) (ne_of_none e nh) (g u x e)
  hh := fun u x z e => d.hh u x (fun q => z (.inl q)) (fun q => z (.inr q)) e
  th := fun u x e => by
    by_cases h1 : u = b
    · rw [h1]
      exact d.st.gb
    by_cases h2 : u = h
    · rw [h2]
      exact d.st.gh
    exact ⟨x, d.hh u x h1 h2 e⟩
  nw := fun u x e z => z
theorem W2.nb1 (x : W2 b h G H) (t : Gr A G H G1 H1) : G1 b = none := by
  obtain ⟨o, e⟩ := x.st.gb
  exact t.nw b _ e x.nb
theorem W2.nh1 (x : W2 b h G H) (t : Gr A G H G1 H1) : G1 h = none := by
  obtain ⟨o, e⟩ := x.st.gh
  exact t.nw h _ e x.nh
theorem W2.step (x : W2 b h G H) (t : Gr (A2 b h) G H G1 H1) (s : Bx H1 b h) : W2 b h G1 H1 := ⟨t.gh, x.nb1 t, x.nh1 t, s⟩
theorem W2.pure (x : W2 b h G H) (t : Gr A0 G H G1 H1) : W2 b h G1 H1 := ⟨t.gh, x.nb1 t, x.nh1 t, x.st.up t.same⟩
theorem W2.ex (x : W2 b h G H) (e : Ex H H1) : W2 b h G H1 := ⟨x.g.trans e, x.nb, x.nh, x.st.up e⟩
theorem W2.gdr (x : W2 b h G H) (d : Dr2 b h H H1) : Gr (A2 b h) G H G H1 := Dr2.gr x.g x.nb x.nh x.st d
theorem W2.dr (x : W2 b h G H) (d : Dr2 b h H H1) : W2 b h G H1 := x.step (x.gdr d) d.st
end
def spPick : Sp := fun vs H Q _ => ∃ (b h : Addr) (n : Int), vs = [.ref b, .int n] ∧ Bx H b h ∧ 0 < n ∧ n ≤ 1000 ∧ ∀ (d : Int) H', 0 ≤ d → d < n → Dr2 b h H H' → Q (.int d) H'
def spDraws (K : PySem.W.Frag) : Sp := fun vs H Q _ => ∃ (s : Addr) (ns : List Int), vs = [.ref s] ∧ SqL K H s (ns.map V.int) ∧ ns.length ≤ 63 ∧ ∀ b h H', Ex H H' → H b = none → H h = none → Bx H' b h → Q (.ref b) H'
def spSay : Sp := fun vs H Q _ => ∃ (b h : Addr) (n : Int), vs = [.ref b, .int n] ∧ Bx H b h ∧ 0 < n ∧ n ≤ 100 ∧ ∀ (t : Str) H', 0 < t.length → (t.length : Int) ≤ n → Dr2 b h H H' → Q (.str t) H'
theorem nat31 {z : Int} (h0 : 0 ≤ z) (h : z < M31) : z.natAbs < 2 ^ 31 := by
  unfold M31 at h
  have e : (2 : Nat) ^ 31 = 2147483648 := by decide
  omega
theorem mix31 (e : Int) : 0 ≤ e % M31 ∧ e % M31 < M31 := ⟨Int.emod_nonneg _ (by decide), Int.emod_lt_of_pos _ (by decide)⟩
/-! ### signs -/
def Tk (H H' : Hp) : Prop := ∀ p xs, H p = some (.tup xs) → H' p = some (.tup xs)
/-- a tuple, of the heap or of the written part -/
def KT (K : PySem.W.Frag) (a : Addr) (xs : List V) : Prop := ∃ (o : Obj) (its : Array Value) (n : Nat), K.lookup a = some o ∧ o.cls = .type "tuple" ∧ o.data = .seq its n ∧ its.size ≤ sizeLine ∧ Vals xs its.toList
def Tu (K : PySem.W.Frag) (H : Hp) (a : Addr) (xs : List V) : Prop := H a = some (.tup xs) ∨ KT K a xs
theorem Tu.sq {K : PySem.W.Frag} {H : Hp} {a : Addr} {xs : List V} (h : Tu K H a xs) : SqT K H a xs := h.elim (fun z => sqT z) fun z => .inr z
theorem Tu.tk {K : PySem.W.Frag} {H H' : Hp} {a : Addr} {xs : List V} (t : Tk H H') (h : Tu K H a xs) : Tu K H' a xs := h.imp (fun z => t _ _ z) id
theorem Tu.up {K : PySem.W.Frag} {H H' : Hp} {a : Addr} {xs : List V} (e : Ex H H') (h : Tu K H a xs) : Tu K H' a xs := h.imp (fun z => e _ _ z) id
/-- a sign's two numbers; only signs of the border may be of the written part -/
def Ts (K : PySem.W.Frag) (H : Hp) (a : Addr) (x : Tl.Sg) : Prop := H a = some (.tup [.int (x.1 : Nat), .int (x.2 : Nat)]) ∨ (x.1 = 0 ∧ KT K a [.int (x.1 : Nat), .int (x.2 : Nat)])
theorem Ts.sq {K : PySem.W.Frag} {H : Hp} {a : Addr} {x : Tl.Sg} (h : Ts K H a x) : SqT K H a [.int (x.1 : Nat), .int (x.2 : Nat)] := h.elim (fun z => sqT z) fun z => .inr z.2
theorem Ts.tu {K : PySem.W.Frag} {H : Hp} {a : Addr} {x : Tl.Sg} (h : Ts K H a x) : Tu K H a [.int (x.1 : Nat), .int (x.2 : Nat)] := h.elim (fun z => .inl z) fun z => .inr z.2
theorem Ts.tk {K : PySem.W.Frag} {H H' : Hp} {a : Addr} {x : Tl.Sg} (t : Tk H H') (h : Ts K H a x) : Ts K H' a x := h.imp (fun z => t _ _ z) id
theorem Ts.up {K : PySem.W.Frag} {H H' : Hp} {a : Addr} {x : Tl.Sg} (e : Ex H H') (h : Ts K H a x) : Ts K H' a x := h.imp (fun z => e _ _ z) id
theorem Ts.own {K : PySem.W.Frag} {H : Hp} {a : Addr} {x : Tl.Sg} (h : Ts K H a x) (h0 : 0 < x.1) : H a = some (.tup [.int (x.1 : Nat), .int (x.2 : Nat)]) := h.elim id fun z => absurd z.1 (by omega)
def SgV (K : PySem.W.Frag) (G : Hp) (v : V) (x : Tl.Sg) : Prop := ∃ p, v = .ref p ∧ Ts K G p x
theorem SgV.up {K : PySem.W.Frag} {G G' : Hp} {v : V} {x : Tl.Sg} (e : Ex G G') (h : SgV K G v x) : SgV K G' v x := h.imp fun _ z => ⟨z.1, z.2.up e⟩
abbrev sgD (x : Tl.Sg) : PyData := .tuple [.int (x.1 : Nat), .int (x.2 : Nat)]
theorem SgV.dp {K : PySem.W.Frag} {G : Hp} {v : V} {x : Tl.Sg} (h : SgV K G v x) : Dp K G v (sgD x) := by
  obtain ⟨p, rfl, hp⟩ := h
  exact .tup hp.sq (.cons (.int _) (.cons (.int _) .nil))
theorem sg_shaped (x : Tl.Sg) : SeqAt.shaped (sgD x) = true := by
  rfl
theorem sg_eqv (x y : Tl.Sg) : PyData.eqv (sgD x) (sgD y) = decide (x = y) := by
  obtain ⟨a, b⟩ := x
  obtain ⟨c, d⟩ := y
  show (PyData.eqv (.int a) (.int c) && (PyData.eqv (.int b) (.int d) && true)) = _
  show (((a : Int) == c) && (((b : Int) == d) && true)) = _
  rw [Bool.eq_iff_iff]
  simp
  omega
theorem r_eqSg {K : PySem.W.Frag} {H : Hp} {Q : VK} {v w : V} {x y : Tl.Sg} (h1 : SgV K H v x) (h2 : SgV K H w y) (q : Q (.bl (decide (x = y))) H) : rEqU K v w H Q :=
  .inr ⟨_, _, h1.dp, h2.dp, sg_shaped x, sg_shaped y, by rw [sg_eqv]; exact q⟩
/-! ### two lists side by side -/
inductive P2 {α β : Type} (R : α → β → Prop) : List α → List β → Prop where
  | nil : P2 R [] []
  | cons {a : α} {b : β} {l : List α} {m : List β} (h : R a b) (t : P2 R l m) : P2 R (a :: l) (b :: m)
section
variable {α β : Type} {R S : α → β → Prop} {l l' : List α} {m m' : List β}
theorem P2.len (h : P2 R l m) : l.length = m.length := by
  induction h with
  | nil => rfl
  | cons h t ih => rw [List.length_cons, List.length_cons, ih]
theorem P2.get (h : P2 R l m) : ∀ {i : Nat} {a : α}, l[i]? = some a → ∃ b, m[i]? = some b ∧ R a b := by
  induction h with
  | nil => intro i a e; simp at e
  | @cons a b l m h t ih =>
    intro i x e
    cases i with
    | zero => exact ⟨b, rfl, by simp at e; exact e ▸ h⟩
    | succ i =>
      simp at e
      simpa using ih e
theorem P2.get' (h : P2 R l m) : ∀ {i : Nat} {b : β}, m[i]? = some b → ∃ a, l[i]? = some a ∧ R a b := by
  induction h with
  | nil => intro i a e; simp at e
  | @cons a b l m h t ih =>
    intro i x e
    cases i with
    | zero => exact ⟨a, rfl, by simp at e; exact e ▸ h⟩
    | succ i =>
      simp at e
      simpa using ih e
theorem P2.imp (h : P2 R l m) (k : ∀ a b, R a b → S a b) : P2 S l m := by
  induction h with
  | nil => exact .nil
  | cons h t ih => exact .cons (k _ _ h) ih
theorem P2.app (h : P2 R l m) (h' : P2 R l' m') : P2 R (l ++ l') (m ++ m') := by
  induction h with
  | nil => exact h'
  | cons h t ih => exact .cons h ih
theorem P2.snoc {a : α} {b : β} (h : P2 R l m) (k : R a b) : P2 R (l ++ [a]) (m ++ [b]) := h.app (.cons k .nil)
theorem P2.take (h : P2 R l m) : ∀ n, P2 R (l.take n) (m.take n) := by
  induction h with
  | nil => intro n; simp; exact .nil
  | cons h t ih =>
    intro n
    cases n with
    | zero => exact .nil
    | succ n => exact .cons h (ih n)
theorem P2.drop (h : P2 R l m) : ∀ n, P2 R (l.drop n) (m.drop n) := by
  induction h with
  | nil => intro n; simp; exact .nil
  | cons h t ih =>
    intro n
    cases n with
    | zero => exact .cons h t
    | succ n => exact ih n
end
theorem P2.join {α β γ : Type} {R : α → γ → Prop} {S : β → γ → Prop} {U : α → β → Prop} {l : List α} {m : List β} {n : List γ} (h : P2 R l n) (k : ∀ a b c, R a c → S b c → U a b) (g : P2 S m n) : P2 U l m := by
  induction h generalizing m with
  | nil => cases g; exact .nil
  | cons h t ih => cases g with
    | cons h' t' => exact .cons (k _ _ _ h h') (ih t')
/-- a list of signs -/
abbrev SgL (K : PySem.W.Frag) (G : Hp) : List V → List Tl.Sg → Prop := P2 (SgV K G)
theorem SgL.up {K : PySem.W.Frag} {G G' : Hp} {l : List V} {m : List Tl.Sg} (e : Ex G G') (h : SgL K G l m) : SgL K G' l m := h.imp fun _ _ z => z.up e
theorem SgL.dps {K : PySem.W.Frag} {G : Hp} {l : List V} {m : List Tl.Sg} (h : SgL K G l m) : DpAll K G l (m.map sgD) := by
  induction h with
  | nil => exact .nil
  | cons h t ih => exact .cons h.dp ih
theorem sgs_shaped (m : List Tl.Sg) : SeqAt.shaped (.list (m.map sgD)) = true := by
  have key : PyData.canLayAll0 (m.map sgD) = true ∧ PyData.depthAll (m.map sgD) ≤ 2 := by
    induction m with
    | nil => exact ⟨rfl, by decide⟩
    | cons x r ih =>
      refine ⟨?_, ?_⟩
      · show ((sgD x).canLay0 && PyData.canLayAll0 (r.map sgD)) = true
        rw [ih.1]
        rfl
      · show max (sgD x).depth (PyData.depthAll (r.map sgD)) ≤ 2
        have e : (sgD x).depth ≤ 2 := by simp [sgD, PyData.depth, PyData.depthAll]
        omega
  show (PyData.canLayAll0 (m.map sgD) && decide (_ ≤ 64)) = true
  rw [key.1]
  have e : (PyData.list (m.map sgD)).depth = PyData.depthAll (m.map sgD) + 1 := by first | rfl | exact Nat.add_comm _ _
  show decide (_ ≤ 64) = true
  rw [decide_eq_true_iff, e]
  omega
/-- l.index(x), l a list of signs -/
theorem r_indexSg {K : PySem.W.Frag} {H : Hp} {Q : VK} {a : Addr} {xs : List V} {v : V} {m : List Tl.Sg} {x : Tl.Sg} {j : Nat} (hl : SqL K H a xs) (hm : SgL K H xs m) (hv : SgV K H v x) (hj : m[j]? = some x) (hno : ∀ i, i < j → m[i]? ≠ some x) (q : Q (.int (j : Nat)) H) :
    rIndexD K (.ref a) [v] H Q := by
  refine ⟨a, v, sgD x, m.map sgD, j, sgD x, rfl, rfl, .lst hl hm.dps, hv.dp, sgs_shaped m, sg_shaped x, by rw [List.getElem?_map, hj]; rfl, by rw [sg_eqv]; simp, fun i z hi hz => ?_, q⟩
  rw [List.getElem?_map] at hz
  obtain ⟨y, hy, rfl⟩ := Option.map_eq_some_iff.mp hz
  rw [sg_eqv]
  refine decide_eq_false fun e => hno i hi ?_
  rw [hy, e]
end Dk

/-! immutable data: kept as long as tuples are kept -/
namespace Dk
open PySem PySem.Spec PyProof.Rows L2
section
variable {H H' H1 H2 : Hp} {b h p l : Addr} {xs ys : List V} {o : HO}
theorem Tk.refl (H : Hp) : Tk H H := fun _ _ e => e
theorem Tk.trans (x : Tk H H1) (y : Tk H1 H2) : Tk H H2 := fun p xs e => y p xs (x p xs e)
theorem Tk.ex (e : Ex H H') : Tk H H' := fun p xs h => e _ _ h
theorem Tk.put (e : H l = some (.lst xs)) : Tk H (upd H l o) := fun p ys h => by
  have n : p ≠ l := fun z => by rw [z, e] at h; cases h
  rw [upd_ne n]
  exact h
theorem Tk.new (e : H p = none) : Tk H (upd H p o) := .ex (Same.new (Same.refl H) e)
theorem Bx.tk (s : Bx H b h) (d : Dr2 b h H H') : Tk H H' := fun p xs e => by
  obtain ⟨_, z, ns, h1, _, _, h2, _⟩ := s
  exact d.hh p _ (fun q => by rw [q, h1] at e; cases e) (fun q => by rw [q, h2] at e; cases e) e
end
/-- a relation between values and data that tuples alone bear -/
class Imm {α : Type} (R : Hp → V → α → Prop) : Prop where
  tk : ∀ {H H' : Hp} {v : V} {x : α}, Tk H H' → R H v x → R H' v x
theorem imm {α : Type} {R : Hp → V → α → Prop} [i : Imm R] {H H' : Hp} {v : V} {x : α} (t : Tk H H') (r : R H v x) : R H' v x := i.tk t r
def IntV (H : Hp) (v : V) (n : Nat) : Prop := v = .int (n : Nat)
def StrV (H : Hp) (v : V) (z : Str) : Prop := v = .str z
def PairV (K : PySem.W.Frag) {α β : Type} (R : Hp → V → α → Prop) (S : Hp → V → β → Prop) (H : Hp) (v : V) (x : α × β) : Prop := ∃ (p : Addr) (a b : V), v = .ref p ∧ Tu K H p [a, b] ∧ R H a x.1 ∧ S H b x.2
def TupV (K : PySem.W.Frag) {α : Type} (R : Hp → V → α → Prop) (H : Hp) (v : V) (l : List α) : Prop := ∃ (p : Addr) (xs : List V), v = .ref p ∧ Tu K H p xs ∧ P2 (R H) xs l
instance : Imm IntV := ⟨fun _ h => h⟩
instance : Imm StrV := ⟨fun _ h => h⟩
instance {K : PySem.W.Frag} : Imm (SgV K) := ⟨fun t h => h.imp fun p z => ⟨z.1, z.2.tk t⟩⟩
instance {K : PySem.W.Frag} {α β : Type} {R : Hp → V → α → Prop} {S : Hp → V → β → Prop} [Imm R] [Imm S] : Imm (PairV K R S) := ⟨fun t h => by
  obtain ⟨p, a, b, h1, h2, h3, h4⟩ := h
  exact ⟨p, a, b, h1, h2.tk t, imm t h3, imm t h4⟩⟩
theorem p2_imm {α : Type} {R : Hp → V → α → Prop} [Imm R] {H H' : Hp} {xs : List V} {l : List α} (t : Tk H H') (h : P2 (R H) xs l) : P2 (R H') xs l := h.imp fun _ _ z => imm t z
instance {K : PySem.W.Frag} {α : Type} {R : Hp → V → α → Prop} [Imm R] : Imm (TupV K R) := ⟨fun t h => by
  obtain ⟨p, xs, h1, h2, h3⟩ := h
  exact ⟨p, xs, h1, h2.tk t, p2_imm t h3⟩⟩
section
variable {α β : Type} {R : Hp → V → α → Prop} {S : Hp → V → β → Prop} {K : PySem.W.Frag} {σ : L2.St} {H H' : Hp} {Q : VK} {v u a b : V} {x : α} {y : β} {l m : List α} {xs : List V} {N : L2.St → Hp → Prop}
theorem TupV.ref (h : TupV K R H v l) : ∃ p xs, v = .ref p ∧ Tu K H p xs ∧ P2 (R H) xs l := h
theorem r_ixTV {i : Nat} (h : TupV K R H v l) (hx : l[i]? = some x) (q : ∀ u, R H u x → Q u H) : rIx K v (.int (i : Nat)) H Q := by
  obtain ⟨p, xs, rfl, hp, hl⟩ := h
  obtain ⟨u, hu, hr⟩ := hl.get' hx
  exact r_ixT hp.sq (atI_nat hu) (q u hr)
theorem r_ixTm (h : TupV K R H v (l ++ [x])) (q : ∀ u, R H u x → Q u H) : rIx K v (.int (-1)) H Q := by
  obtain ⟨p, xs, rfl, hp, hl⟩ := h
  have hlen := hl.len
  obtain ⟨u, hu, hr⟩ := hl.get' (i := l.length) (b := x) (by simp)
  rw [List.length_append, List.length_singleton] at hlen
  have e : xs = xs.dropLast ++ [u] := by
    have hne : xs ≠ [] := fun z => by rw [z] at hlen; simp at hlen
    have h1 := (List.dropLast_concat_getLast hne).symm
    have h2 : xs.getLast hne = u := by
      have h3 : xs[xs.length - 1]? = some (xs.getLast hne) := by rw [← List.getLast?_eq_getElem?]; exact List.getLast?_eq_some_getLast hne
      rw [hlen, Nat.add_sub_cancel, hu] at h3
      exact (Option.some.inj h3).symm
    rw [h2] at h1
    exact h1
  rw [e] at hp
  exact r_ixT hp.sq (atI_last _ _) (q u hr)
theorem r_ixP0 {z : α × β} (h : PairV K R S H v z) (q : ∀ u, R H u z.1 → Q u H) : rIx K v (.int 0) H Q := by
  obtain ⟨p, a, b, rfl, hp, ha, hb⟩ := h
  exact r_ixT hp.sq (atI_nat (j := 0) rfl) (q a ha)
theorem r_ixP1 {z : α × β} (h : PairV K R S H v z) (q : ∀ u, S H u z.2 → Q u H) : rIx K v (.int 1) H Q := by
  obtain ⟨p, a, b, rfl, hp, ha, hb⟩ := h
  exact r_ixT hp.sq (atI_nat (j := 1) rfl) (q b hb)
theorem r_ixS0 {z : Tl.Sg} (h : SgV K H v z) (q : Q (.int (z.1 : Nat)) H) : rIx K v (.int 0) H Q := by
  obtain ⟨p, rfl, hp⟩ := h
  exact r_ixT hp.sq (atI_nat (j := 0) rfl) q
theorem r_ixS1 {z : Tl.Sg} (h : SgV K H v z) (q : Q (.int (z.2 : Nat)) H) : rIx K v (.int 1) H Q := by
  obtain ⟨p, rfl, hp⟩ := h
  exact r_ixT hp.sq (atI_nat (j := 1) rfl) q
theorem r_lenTV (h : TupV K R H v l) (q : Q (.int (l.length : Nat)) H) : rLenU K [v] H Q := by
  obtain ⟨p, xs, rfl, hp, hl⟩ := h
  refine r_lenT hp.sq ?_
  rw [hl.len]
  exact q
theorem r_gP {t : TGs} {z : α × β} (h : PairV K R S H v z) (k : ∀ a b, R H a z.1 → S H b z.2 → t [a, b] σ H N) : gTup K 2 t v σ H N := by
  obtain ⟨p, a, b, rfl, hp, ha, hb⟩ := h
  exact r_gtup hp.sq rfl (k a b ha hb)
theorem r_mkP [Imm R] [Imm S] (ha : R H a x) (hb : S H b y) (q : ∀ p H', H p = none → Ex H H' → PairV K R S H' (.ref p) (x, y) → Q (.ref p) H') : [a, b].length ≤ sizeLine ∧ ∀ p, H p = none → Q (.ref p) (upd H p (.tup [a, b])) :=
  r_small nsz fun p hp => q p _ hp (Same.new (Same.refl H) hp) ⟨p, a, b, rfl, .inl upd_same, imm (.new hp) ha, imm (.new hp) hb⟩
theorem r_mkS {i j : Nat} (q : ∀ p H', H p = none → Ex H H' → SgV K H' (.ref p) (i, j) → Q (.ref p) H') : [V.int (i : Nat), V.int (j : Nat)].length ≤ sizeLine ∧ ∀ p, H p = none → Q (.ref p) (upd H p (.tup [V.int (i : Nat), V.int (j : Nat)])) :=
  r_small nsz fun p hp => q p _ hp (Same.new (Same.refl H) hp) ⟨p, rfl, .inl upd_same⟩
theorem r_mkT [Imm R] (h : P2 (R H) xs l) (hl : l.length ≤ 1000) (q : ∀ p H', H p = none → Ex H H' → TupV K R H' (.ref p) l → Q (.ref p) H') : xs.length ≤ sizeLine ∧ ∀ p, H p = none → Q (.ref p) (upd H p (.tup xs)) :=
  r_small (by rw [h.len]; exact hl) fun p hp => q p _ hp (Same.new (Same.refl H) hp) ⟨p, xs, rfl, .inl upd_same, p2_imm (.new hp) h⟩
theorem r_catTV [Imm R] (h1 : TupV K R H v l) (h2 : TupV K R H u m) (hz : l.length + m.length ≤ 1000) (q : ∀ w H', Ex H H' → TupV K R H' w (l ++ m) → Q w H') : rAddU K v u H Q := by
  obtain ⟨p, xs, rfl, hp, hl⟩ := h1
  obtain ⟨p2, ys, rfl, hp2, hm⟩ := h2
  refine .inr (.inr (.inr ⟨p, p2, xs, ys, rfl, rfl, hp.sq, hp2.sq, Nat.le_of_lt (small1000 (by rw [hl.len, hm.len]; exact hz)), fun z => ?_, fun _ z => ?_, fun _ _ p3 hp3 => ?_⟩))
  · subst z
    cases hl
    exact q _ H (Same.refl H) ⟨p2, ys, rfl, hp2, hm⟩
  · subst z
    cases hm
    rw [List.append_nil] at q
    exact q _ H (Same.refl H) ⟨p, xs, rfl, hp, hl⟩
  · exact q _ _ (Same.new (Same.refl H) hp3) ⟨p3, _, rfl, .inl upd_same, p2_imm (.new hp3) (hl.app hm)⟩
theorem P2.all {l' : List V} {m' : List α} {P : V → α → Prop} (h : P2 P l' m') (lo hi : Option Int) : P2 P (cutV l' lo hi) ((m'.drop (HT.sIx m'.length 0 lo)).take (HT.sIx m'.length m'.length hi - HT.sIx m'.length 0 lo)) := by
  unfold cutV
  rw [h.len]
  exact (h.drop _).take _
theorem r_slTV [Imm R] {lo hi : Option Int} (h : TupV K R H v l) (q : ∀ w H', Ex H H' → TupV K R H' w ((l.drop (HT.sIx l.length 0 lo)).take (HT.sIx l.length l.length hi - HT.sIx l.length 0 lo)) → Q w H') : rSlU K v lo hi H Q := by
  obtain ⟨p, xs, rfl, hp, hl⟩ := h
  refine .inr (.inr ⟨p, xs, rfl, hp.sq, fun z => ?_, fun _ p2 hp2 => ?_⟩)
  · have e : ((l.drop (HT.sIx l.length 0 lo)).take (HT.sIx l.length l.length hi - HT.sIx l.length 0 lo)) = l := by
      rw [hl.len] at z
      rw [z.1, z.2, List.drop_zero, Nat.sub_zero, List.take_length]
    rw [e] at q
    exact q _ H (Same.refl H) ⟨p, xs, rfl, hp, hl⟩
  · exact q _ _ (Same.new (Same.refl H) hp2) ⟨p2, _, rfl, .inl upd_same, p2_imm (.new hp2) (hl.all lo hi)⟩
theorem cut_to {l : List α} {k : Nat} : (l.drop (HT.sIx l.length 0 none)).take (HT.sIx l.length l.length (some (k : Int)) - HT.sIx l.length 0 none) = l.take k := by
  rw [HT.sIx_nat, HT.sIx_none, List.drop_zero, Nat.sub_zero]
  by_cases h : k ≤ l.length
  · rw [Nat.min_eq_left h]
  · rw [Nat.min_eq_right (by omega), List.take_length, List.take_of_length_le (by omega)]
theorem cut_from {l : List α} {k : Nat} : (l.drop (HT.sIx l.length 0 (some (k : Int)))).take (HT.sIx l.length l.length none - HT.sIx l.length 0 (some (k : Int))) = l.drop k := by
  rw [HT.sIx_nat, HT.sIx_none]
  by_cases h : k ≤ l.length
  · rw [Nat.min_eq_left h, List.take_of_length_le (by rw [List.length_drop]; omega)]
  · rw [Nat.min_eq_right (by omega), Nat.sub_self, List.take_zero, List.drop_eq_nil_of_le (by omega)]
theorem r_slTo [Imm R] {k : Nat} (h : TupV K R H v l) (q : ∀ w H', Ex H H' → TupV K R H' w (l.take k) → Q w H') : rSlU K v none (some (k : Int)) H Q := r_slTV h (by rw [cut_to]; exact q)
theorem r_slFrom [Imm R] {k : Nat} (h : TupV K R H v l) (q : ∀ w H', Ex H H' → TupV K R H' w (l.drop k) → Q w H') : rSlU K v (some (k : Int)) none H Q := r_slTV h (by rw [cut_from]; exact q)
/-- tuple(list) -/
theorem r_tupLV [Imm R] {p : Addr} (hp : H p = some (.lst xs)) (h : P2 (R H) xs l) (q : ∀ p H', H p = none → Ex H H' → TupV K R H' (.ref p) l → Q (.ref p) H') : rTupU K [.ref p] H Q :=
  r_tupL (sqL hp) fun p2 hp2 => q p2 _ hp2 (Same.new (Same.refl H) hp2) ⟨p2, xs, rfl, .inl upd_same, p2_imm (.new hp2) h⟩
/-- an item of a list -/
theorem r_ixLV {p : Addr} {i : Nat} (hp : H p = some (.lst xs)) (h : P2 (R H) xs l) (hx : l[i]? = some x) (q : ∀ u, R H u x → Q u H) : rIx K (.ref p) (.int (i : Nat)) H Q := by
  obtain ⟨u, hu, hr⟩ := h.get' hx
  exact r_ixL (sqL hp) (atI_nat hu) (q u hr)
theorem r_ixLm {p : Addr} (hp : H p = some (.lst xs)) (h : P2 (R H) xs (l ++ [x])) (q : ∀ u, R H u x → Q u H) : rIx K (.ref p) (.int (-1)) H Q := by
  have hlen := h.len
  obtain ⟨u, hu, hr⟩ := h.get' (i := l.length) (b := x) (by simp)
  rw [List.length_append, List.length_singleton] at hlen
  have e : xs = xs.dropLast ++ [u] := by
    have hne : xs ≠ [] := fun z => by rw [z] at hlen; simp at hlen
    have h1 := (List.dropLast_concat_getLast hne).symm
    have h2 : xs.getLast hne = u := by
      have h3 : xs[xs.length - 1]? = some (xs.getLast hne) := by rw [← List.getLast?_eq_getElem?]; exact List.getLast?_eq_some_getLast hne
      rw [hlen, Nat.add_sub_cancel, hu] at h3
      exact (Option.some.inj h3).symm
    rw [h2] at h1
    exact h1
  rw [e] at hp
  exact r_ixL (sqL hp) (atI_last _ _) (q u hr)
end
/-! equality of pairs of signs -/
abbrev SpV (K : PySem.W.Frag) := PairV K (SgV K) (SgV K)
abbrev spD (x : Tl.Sg × Tl.Sg) : PyData := .tuple [sgD x.1, sgD x.2]
theorem SpV.dp {K : PySem.W.Frag} {G : Hp} {v : V} {x : Tl.Sg × Tl.Sg} (h : SpV K G v x) : Dp K G v (spD x) := by
  obtain ⟨p, a, b, rfl, hp, ha, hb⟩ := h
  exact .tup hp.sq (.cons ha.dp (.cons hb.dp .nil))
theorem sp_shaped (x : Tl.Sg × Tl.Sg) : SeqAt.shaped (spD x) = true := by rfl
theorem sp_eqv (x y : Tl.Sg × Tl.Sg) : PyData.eqv (spD x) (spD y) = decide (x = y) := by
  obtain ⟨a, b⟩ := x
  obtain ⟨c, d⟩ := y
  show (PyData.eqv (sgD a) (sgD c) && (PyData.eqv (sgD b) (sgD d) && true)) = _
  rw [sg_eqv, sg_eqv, Bool.and_true, Bool.eq_iff_iff]
  simp
theorem r_eqSp {K : PySem.W.Frag} {H : Hp} {Q : VK} {v w : V} {x y : Tl.Sg × Tl.Sg} (h1 : SpV K H v x) (h2 : SpV K H w y) (q : Q (.bl (decide (x = y))) H) : rEqU K v w H Q :=
  .inr ⟨_, _, h1.dp, h2.dp, sp_shaped x, sp_shaped y, by rw [sp_eqv]; exact q⟩
theorem r_neSp {K : PySem.W.Frag} {H : Hp} {Q : VK} {v w : V} {x y : Tl.Sg × Tl.Sg} (h1 : SpV K H v x) (h2 : SpV K H w y) (q : Q (.bl (!decide (x = y))) H) : rNeU K v w H Q :=
  .inr ⟨_, _, h1.dp, h2.dp, sp_shaped x, sp_shaped y, by rw [sp_eqv]; exact q⟩
theorem sps_shaped (m : List (Tl.Sg × Tl.Sg)) : SeqAt.shaped (.list (m.map spD)) = true := by
  have key : PyData.canLayAll0 (m.map spD) = true ∧ PyData.depthAll (m.map spD) ≤ 3 := by
    induction m with
    | nil => exact ⟨rfl, by decide⟩
    | cons x r ih =>
      refine ⟨?_, ?_⟩
      · show ((spD x).canLay0 && PyData.canLayAll0 (r.map spD)) = true
        rw [ih.1]
        rfl
      · show max (spD x).depth (PyData.depthAll (r.map spD)) ≤ 3
        have e : (spD x).depth ≤ 3 := by simp [spD, sgD, PyData.depth, PyData.depthAll]
        omega
  show (PyData.canLayAll0 (m.map spD) && decide (_ ≤ 64)) = true
  rw [key.1]
  have e : (PyData.list (m.map spD)).depth = PyData.depthAll (m.map spD) + 1 := by first | rfl | exact Nat.add_comm _ _
  show decide (_ ≤ 64) = true
  rw [decide_eq_true_iff, e]
  omega
theorem sps_dps {K : PySem.W.Frag} {H : Hp} {xs : List V} {m : List (Tl.Sg × Tl.Sg)} (h : P2 (SpV K H) xs m) : DpAll K H xs (m.map spD) := by
  induction h with
  | nil => exact .nil
  | cons h t ih => exact .cons (SpV.dp h) ih
/-- pair not in a list of pairs -/
theorem r_niSp {K : PySem.W.Frag} {H : Hp} {Q : VK} {v : V} {p : Addr} {xs : List V} {x : Tl.Sg × Tl.Sg} {m : List (Tl.Sg × Tl.Sg)} (h1 : SpV K H v x) (hp : H p = some (.lst xs)) (h2 : P2 (SpV K H) xs m) (q : Q (.bl (!decide (x ∈ m))) H) : rNotInD K v (.ref p) H Q := by
  exact ⟨_, _, h1.dp, .lst (sqL hp) (sps_dps h2), sp_shaped x, sps_shaped m, by
    have e : ((m.map spD).any fun z => PyData.eqv z (spD x)) = decide (x ∈ m) := by
      rw [List.any_map, Bool.eq_iff_iff, List.any_eq_true, decide_eq_true_iff]
      constructor
      · rintro ⟨y, hy, e⟩
        rw [Function.comp_apply, sp_eqv, decide_eq_true_iff] at e
        rw [← e]
        exact hy
      · intro h
        exact ⟨x, h, by rw [Function.comp_apply, sp_eqv]; exact decide_eq_true rfl⟩
    rw [e]
    exact q⟩
end Dk

/-! rules of our own, further -/
namespace Dk
open PySem PySem.Spec PyProof.Rows L2
/-! text * number -/
def rRepS : R2 := fun x y H Q => ∃ (z : Str) (n : Nat), x = .str z ∧ y = .int (n : Nat) ∧ z.length ≤ 100 ∧ n ≤ 8000 ∧ Q (.str (Txt.mul z n)) H
theorem op_repS {X : Cx} : OpR X (binaryOp .Mult) rRepS := by
  intro pins s σ H x y v u Q I rx ry h
  obtain ⟨z, n, rfl, rfl, hz, hn, q⟩ := h
  obtain ⟨t, rfl⟩ := rx
  obtain ⟨t', rfl⟩ := ry
  refine SB.mul ⟨?_, fun h1 h2 => ?_, fun h1 h2 => ?_⟩ fun t' k => ⟨.str (Txt.mul z n), H, I.tok _, ⟨_, rfl⟩, q⟩
  · simp
    omega
  · have e : (z.length : Int) * n ≤ 2 ^ 63 - 1 := by
      have : (z.length : Int) * n ≤ 100 * 8000 := Int.mul_le_mul (by omega) (by omega) (by omega) (by omega)
      omega
    have p : (0 : Int) < n := by omega
    have := (Int.le_ediv_iff_mul_le p).mpr e
    omega
  · have e : z.length * n ≤ 100 * 8000 := Nat.mul_le_mul hz hn
    rw [Int.toNat_natCast]
    show decide (z.length * n > sizeLine) = false
    rw [decide_eq_false_iff_not, sizeLine_eq]
    omega
theorem r_repS {H : Hp} {Q : VK} {z : Str} {n : Nat} (hz : z.length ≤ 100) (hn : n ≤ 8000) (q : Q (.str (Txt.mul z n)) H) : rRepS (.str z) (.int (n : Nat)) H Q := ⟨z, n, rfl, rfl, hz, hn, q⟩
theorem cs_mul (z : Str) (n : Nat) : cs (Txt.mul z n) = (List.replicate n (cs z)).flatten := by
  unfold Txt.mul
  by_cases h1 : (n : Int) < 1
  · have e : n = 0 := by omega
    subst e
    rw [if_pos h1]
    rfl
  · rw [if_neg h1]
    by_cases h2 : ((n : Int) == 1 || z.length == 0) = true
    · rw [if_pos h2]
      rw [Bool.or_eq_true, beq_iff_eq, beq_iff_eq] at h2
      rcases h2 with h2 | h2
      · have e : n = 1 := by omega
        subst e
        simp
      · have e : cs z = [] := List.length_eq_zero_iff.mp (by rw [cs_len]; exact h2)
        rw [e]
        simp
    · rw [if_neg h2, Int.toNat_natCast]
      have key : ∀ (m : Nat) (a : Array Nat), ((List.replicate m z.cps).foldl (fun x y => x ++ y) a).toList = a.toList ++ (List.replicate m (cs z)).flatten := by
        intro m
        induction m with
        | zero => intro a; simp
        | succ m ih =>
          intro a
          rw [List.replicate_succ, List.foldl_cons, ih, List.replicate_succ, List.flatten_cons, Array.toList_append, List.append_assoc]
      have q := key n #[]
      simpa using q
theorem len_mul (z : Str) (n : Nat) : (Txt.mul z n).length = n * z.length := by
  rw [← cs_len, cs_mul, List.length_flatten, List.map_replicate, List.sum_replicate_nat, cs_len]
/-! reversed(a tuple) -/
theorem r_forRvo {K : PySem.W.Frag} {te : TE} {g : TG} {tb : TS} {D : Ends} {σ : L2.St} {H : Hp} (h : te σ H fun v H1 => ∃ (a : Addr) (xs : List V), v = .ref a ∧ ((SqL K H1 a xs ∧ LoopW (Itv K a xs.length) g tb D σ H1) ∨ (SqT K H1 a xs ∧ LoopW (RT.ItvT K a xs.length) g tb D σ H1))) : tFor (RT.iRevA K te) g tb D σ H := h
theorem r_mkSi {K : PySem.W.Frag} {H : Hp} {Q : VK} {a b : Int} {i j : Nat} (ea : a = (i : Nat)) (eb : b = (j : Nat)) (q : ∀ p H', H p = none → Ex H H' → SgV K H' (.ref p) (i, j) → Q (.ref p) H') : [V.int a, V.int b].length ≤ sizeLine ∧ ∀ p, H p = none → Q (.ref p) (upd H p (.tup [V.int a, V.int b])) := by
  subst ea eb
  exact r_mkS q
section
variable {α β : Type} {R : Hp → V → α → Prop} {S : Hp → V → β → Prop} {H : Hp} {p : Addr} {u v : V} {x : α} {y : β} {l : List α} {xs : List V}
theorem nP (K : PySem.W.Frag) [Imm R] [Imm S] (hp : H p = none) (ha : R H u x) (hb : S H v y) : ∃ H', H' = upd H p (.tup [u, v]) ∧ Ex H H' ∧ PairV K R S H' (.ref p) (x, y) :=
  ⟨_, rfl, Same.new (Same.refl H) hp, p, u, v, rfl, .inl upd_same, imm (.new hp) ha, imm (.new hp) hb⟩
theorem nS (K : PySem.W.Frag) {a b : Int} {i j : Nat} (hp : H p = none) (ea : a = (i : Nat)) (eb : b = (j : Nat)) : ∃ H', H' = upd H p (.tup [V.int a, V.int b]) ∧ Ex H H' ∧ SgV K H' (.ref p) (i, j) := by
  subst ea eb
  exact ⟨_, rfl, Same.new (Same.refl H) hp, p, rfl, .inl upd_same⟩
theorem nT (K : PySem.W.Frag) [Imm R] (hp : H p = none) (h : P2 (R H) xs l) : ∃ H', H' = upd H p (.tup xs) ∧ Ex H H' ∧ TupV K R H' (.ref p) l :=
  ⟨_, rfl, Same.new (Same.refl H) hp, p, xs, rfl, .inl upd_same, p2_imm (.new hp) h⟩
theorem nL (o : HO) (hp : H p = none) : ∃ H', H' = upd H p o ∧ Ex H H' ∧ H' p = some o := ⟨_, rfl, Same.new (Same.refl H) hp, upd_same⟩
end
/-! within a comprehension -/
theorem k_eqU {X : Cx} {K : PySem.W.Frag} (h : X.K = K) (hu : X.A.units + 64 < cLine) : OpR X (compareOp .Eq) (rEqU K) := h ▸ op_eqU hu
theorem k_neU {X : Cx} {K : PySem.W.Frag} (h : X.K = K) (hu : X.A.units + 64 < cLine) : OpR X (compareOp .NotEq) (rNeU K) := h ▸ op_neU hu
/-! ints in lists -/
section
variable {K : PySem.W.Frag} {H : Hp} {Q : VK} {p : Addr} {ns : List Int} {i : Int}
theorem flat_ints : (ns.map V.int).all flatV = true := by
  rw [List.all_map, List.all_eq_true]
  intro x _
  rfl
theorem inV_ints : inV (.int i) (ns.map V.int) = decide (i ∈ ns) := by
  unfold inV
  rw [List.any_map, Bool.eq_iff_iff, List.any_eq_true, decide_eq_true_iff]
  constructor
  · rintro ⟨y, hy, e⟩
    have z : y = i := by
      have := e
      simp [eqV] at this
      omega
    rw [← z]
    exact hy
  · intro h
    exact ⟨i, h, by simp [eqV]⟩
theorem r_inI (hp : SqL K H p (ns.map V.int)) (q : Q (.bl (decide (i ∈ ns))) H) : rInU K (.int i) (.ref p) H Q :=
  .inr ⟨p, _, rfl, .inl hp, rfl, flat_ints, by
    show Q (.bl (inV (.int i) (ns.map V.int))) H
    rw [inV_ints]
    exact q⟩
theorem dps_ints : DpAll K H (ns.map V.int) (ns.map PyData.int) := by
  induction ns with
  | nil => exact .nil
  | cons x r ih => exact .cons (.int _) ih
theorem ints_shaped : SeqAt.shaped (.list (ns.map PyData.int)) = true := by
  have key : PyData.canLayAll0 (ns.map PyData.int) = true ∧ PyData.depthAll (ns.map PyData.int) ≤ 2 := by
    induction ns with
    | nil => exact ⟨rfl, by decide⟩
    | cons x r ih =>
      refine ⟨?_, ?_⟩
      · show ((PyData.int x).canLay0 && PyData.canLayAll0 (r.map PyData.int)) = true
        rw [ih.1]
        rfl
      · show max (PyData.int x).depth (PyData.depthAll (r.map PyData.int)) ≤ 2
        have e : (PyData.int x).depth ≤ 2 := by simp [PyData.depth]
        omega
  show (PyData.canLayAll0 (ns.map PyData.int) && decide (_ ≤ 64)) = true
  rw [key.1]
  have e : (PyData.list (ns.map PyData.int)).depth = PyData.depthAll (ns.map PyData.int) + 1 := by first | rfl | exact Nat.add_comm _ _
  show decide (_ ≤ 64) = true
  rw [decide_eq_true_iff, e]
  omega
/-- l.index(i), l a list of ints -/
theorem r_indexI {j : Nat} (hp : SqL K H p (ns.map V.int)) (hj : ns[j]? = some i) (hno : ∀ m, m < j → ns[m]? ≠ some i) (q : Q (.int (j : Nat)) H) : rIndexD K (.ref p) [.int i] H Q := by
  refine ⟨p, .int i, .int i, ns.map PyData.int, j, .int i, rfl, rfl, .lst hp dps_ints, .int i, ints_shaped, rfl, by rw [List.getElem?_map, hj]; rfl, ?_, fun m z hm hz => ?_, q⟩
  · show ((i : Int) == i) = true
    exact beq_self_eq_true i
  · rw [List.getElem?_map] at hz
    obtain ⟨y, hy, rfl⟩ := Option.map_eq_some_iff.mp hz
    show ((y : Int) == i) = false
    rw [beq_eq_false_iff_ne]
    intro e
    exact hno m hm (by rw [hy, e])
end
end Dk

/-! min(a, b), max(a, b) of two tuples of numbers; sorted of two -/
namespace Dk
open PySem PySem.Spec PyProof.Rows L2 PySem.SeqAt PySem.W
section
variable {prog : Program} {w : World} {A : Around} {E : Value → Shared → Prop} {s : Shared}
theorem call_min_twoH {a b : Value} {Q : Value → Shared → Prop}
    (h : wpAny (model prog w) A.in1 (pyIter (.ref s.heap.objs.size)) (fun it s₂ => ∃ I fp wr G n P St H bt, it = .ref I ∧ WalksS prog w A.in1 I fp wr G n P St ∧ St 0 s₂ ∧ (∀ b ∈ fp, b < s₂.heap.objs.size) ∧ 0 < n ∧
      (∀ b o, H.get? b = some o → b ∉ wr) ∧ (∀ b o, H.get? b = some o → s₂.heap.get? b = some o) ∧ CmpIn prog w A.in1 .Lt H P bt ∧ ∀ v s', P (argBest bt (n - 1)) v → Moved wr G s₂ s' → Q v s') E
      { s with heap := s.heap.push { cls := .type "tuple", data := .seq #[a, b] } }) :
    wpAny (model prog w) A (call (.builtin "min") [a, b]) Q E s := by
  have hname : (toString "min" ++ toString ".loop" : String) = "min.loop" := by decide
  refine call_function_tree F.kind_min F.plain_min F.entry_min (F.args_min2 _ _) ?_
  show wpAny _ A.in1 (Builtin.Builtins.bindParams "min" ["key", "default"] 0 ⟨[], []⟩ >>= _) _ _ s
  refine wpAny_bind (wpAny_of_eq (show Builtin.Builtins.bindParams "min" ["key", "default"] 0 ⟨[], []⟩ = pure [none, none] from rfl) ?_)
  show wpAny _ A.in1 (newTuple [a, b] >>= _) _ _ s
  refine wpAny_bind (wpAny_newObj_type ?_)
  refine wpAny_bind (wpAny_mono h (fun it s₂ h₂ => ?_) fun _ _ e => e)
  obtain ⟨I, fp, wr, G, n, P, St, H, bt, rfl, W, hst, hfp, hn, hw, hkeep, hcmp, hQ⟩ := h₂
  refine wpAny_bind (wpAny_newObj_type ?_)
  have hSf : s₂.heap.objs.size ∉ fp := fun hm => Nat.lt_irrefl _ (hfp _ hm)
  rw [hname]
  refine wpAny_pure ⟨plainId_quiet F.plain_min_loop _, codeAny_min_loop_firstH W H hw bt hcmp s₂.heap.objs.size hSf (fresh_in hkeep) _ hn (fun b o e => Heap.get?_push_of_some _ (hkeep b o e)) (W.frame 0 s₂ _ s₂.toks hst (Nat.le_refl _) fun b _ o e => Heap.get?_push_of_some _ e) (Heap.get?_push_size _ rfl) fun v s' hP hm => ?_⟩
  exact hQ v s' hP (Moved.drop_new (tk := s₂.toks) hm (Nat.le_refl _))
theorem call_max_twoH {a b : Value} {Q : Value → Shared → Prop}
    (h : wpAny (model prog w) A.in1 (pyIter (.ref s.heap.objs.size)) (fun it s₂ => ∃ I fp wr G n P St H bt, it = .ref I ∧ WalksS prog w A.in1 I fp wr G n P St ∧ St 0 s₂ ∧ (∀ b ∈ fp, b < s₂.heap.objs.size) ∧ 0 < n ∧
      (∀ b o, H.get? b = some o → b ∉ wr) ∧ (∀ b o, H.get? b = some o → s₂.heap.get? b = some o) ∧ CmpIn prog w A.in1 .Gt H P bt ∧ ∀ v s', P (argBest bt (n - 1)) v → Moved wr G s₂ s' → Q v s') E
      { s with heap := s.heap.push { cls := .type "tuple", data := .seq #[a, b] } }) :
    wpAny (model prog w) A (call (.builtin "max") [a, b]) Q E s := by
  have hname : (toString "max" ++ toString ".loop" : String) = "max.loop" := by decide
  refine call_function_tree F.kind_max F.plain_max F.entry_max (F.args_max2 _ _) ?_
  show wpAny _ A.in1 (Builtin.Builtins.bindParams "max" ["key", "default"] 0 ⟨[], []⟩ >>= _) _ _ s
  refine wpAny_bind (wpAny_of_eq (show Builtin.Builtins.bindParams "max" ["key", "default"] 0 ⟨[], []⟩ = pure [none, none] from rfl) ?_)
  show wpAny _ A.in1 (newTuple [a, b] >>= _) _ _ s
  refine wpAny_bind (wpAny_newObj_type ?_)
  refine wpAny_bind (wpAny_mono h (fun it s₂ h₂ => ?_) fun _ _ e => e)
  obtain ⟨I, fp, wr, G, n, P, St, H, bt, rfl, W, hst, hfp, hn, hw, hkeep, hcmp, hQ⟩ := h₂
  refine wpAny_bind (wpAny_newObj_type ?_)
  have hSf : s₂.heap.objs.size ∉ fp := fun hm => Nat.lt_irrefl _ (hfp _ hm)
  rw [hname]
  refine wpAny_pure ⟨plainId_quiet F.plain_max_loop _, codeAny_max_loop_firstH W H hw bt hcmp s₂.heap.objs.size hSf (fresh_in hkeep) _ hn (fun b o e => Heap.get?_push_of_some _ (hkeep b o e)) (W.frame 0 s₂ _ s₂.toks hst (Nat.le_refl _) fun b _ o e => Heap.get?_push_of_some _ e) (Heap.get?_push_size _ rfl) fun v s' hP hm => ?_⟩
  exact hQ v s' hP (Moved.drop_new (tk := s₂.toks) hm (Nat.le_refl _))
theorem min_two_data {a b : Value} {x y : PyData} {as bs : List Addr} {Q : Value → Shared → Prop} (hh : A.handled = none) (ra : Reads s.heap a x as) (rb : Reads s.heap b y bs) (ha : PySem.W.AlikeAll [x, y]) (hu : A.units + 1 + PyData.depthAll [x, y] < cLine)
    (h : ∀ h' tk, (∀ c o, s.heap.get? c = some o → h'.get? c = some o) → Q (if dataLt y x = true then b else a) { s with heap := h', toks := tk }) :
    wpAny (model prog w) A (call (.builtin "min") [a, b]) Q E s := by
  have k0 : ∀ c o, s.heap.get? c = some o → (s.heap.push { cls := .type "tuple", data := .seq #[a, b] }).get? c = some o := fun c o e => Heap.get?_push_of_some _ e
  have hl : ({ s with heap := s.heap.push { cls := .type "tuple", data := .seq #[a, b] } } : Shared).heap.IsTuple s.heap.objs.size #[a, b] := ⟨_, Heap.get?_push_size _ rfl, rfl, 0, rfl⟩
  have hr : ReadsAll (s.heap.push { cls := .type "tuple", data := .seq #[a, b] }) (#[a, b] : Array Value).toList [x, y] _ := ReadsAll.cons (Reads.keeps k0 ra) (ReadsAll.cons (Reads.keeps k0 rb) ReadsAll.nil)
  refine call_min_twoH (iter_tupleW (s := { s with heap := s.heap.push { cls := .type "tuple", data := .seq #[a, b] } }) (A := A.in1) hh hl fun s₂ e W st hfp hw hk => ?_)
  refine ⟨_, _, _, _, _, _, _, (s.heap.push { cls := .type "tuple", data := .seq #[a, b] }), _, rfl, W, st, hfp, by simp, hw, hk, PySem.W.cmpIn_lt (s := { s with heap := s.heap.push { cls := .type "tuple", data := .seq #[a, b] } }) (A := A.in1) hr ha (by show A.units + 1 + _ < _; exact hu), fun v s' hP m => ?_⟩
  obtain ⟨h', tk, rfl, hk'⟩ := moved_old e rfl m
  have hv : v = if dataLt y x = true then b else a := by
    have hP' : (#[a, b] : Array Value)[if dataLt y x = true then 1 else 0]? = some v := hP
    by_cases c : dataLt y x = true
    · rw [if_pos c] at hP' ⊢
      exact (Option.some.inj hP').symm
    · rw [if_neg c] at hP' ⊢
      exact (Option.some.inj hP').symm
  rw [hv]
  exact h h' tk fun c o e => hk' c o (k0 c o e)
theorem max_two_data {a b : Value} {x y : PyData} {as bs : List Addr} {Q : Value → Shared → Prop} (hh : A.handled = none) (ra : Reads s.heap a x as) (rb : Reads s.heap b y bs) (ha : PySem.W.AlikeAll [x, y]) (hu : A.units + 1 + PyData.depthAll [x, y] < cLine)
    (h : ∀ h' tk, (∀ c o, s.heap.get? c = some o → h'.get? c = some o) → Q (if dataLt x y = true then b else a) { s with heap := h', toks := tk }) :
    wpAny (model prog w) A (call (.builtin "max") [a, b]) Q E s := by
  have k0 : ∀ c o, s.heap.get? c = some o → (s.heap.push { cls := .type "tuple", data := .seq #[a, b] }).get? c = some o := fun c o e => Heap.get?_push_of_some _ e
  have hl : ({ s with heap := s.heap.push { cls := .type "tuple", data := .seq #[a, b] } } : Shared).heap.IsTuple s.heap.objs.size #[a, b] := ⟨_, Heap.get?_push_size _ rfl, rfl, 0, rfl⟩
  have hr : ReadsAll (s.heap.push { cls := .type "tuple", data := .seq #[a, b] }) (#[a, b] : Array Value).toList [x, y] _ := ReadsAll.cons (Reads.keeps k0 ra) (ReadsAll.cons (Reads.keeps k0 rb) ReadsAll.nil)
  refine call_max_twoH (iter_tupleW (s := { s with heap := s.heap.push { cls := .type "tuple", data := .seq #[a, b] } }) (A := A.in1) hh hl fun s₂ e W st hfp hw hk => ?_)
  refine ⟨_, _, _, _, _, _, _, (s.heap.push { cls := .type "tuple", data := .seq #[a, b] }), _, rfl, W, st, hfp, by simp, hw, hk, PySem.W.cmpIn_gt (s := { s with heap := s.heap.push { cls := .type "tuple", data := .seq #[a, b] } }) (A := A.in1) hr ha (by show A.units + 1 + _ < _; exact hu), fun v s' hP m => ?_⟩
  obtain ⟨h', tk, rfl, hk'⟩ := moved_old e rfl m
  have hv : v = if dataLt x y = true then b else a := by
    have hP' : (#[a, b] : Array Value)[if dataLt x y = true then 1 else 0]? = some v := hP
    by_cases c : dataLt x y = true
    · rw [if_pos c] at hP' ⊢
      exact (Option.some.inj hP').symm
    · rw [if_neg c] at hP' ⊢
      exact (Option.some.inj hP').symm
  rw [hv]
  exact h h' tk fun c o e => hk' c o (k0 c o e)
end
def rMinD (K : PySem.W.Frag) : List V → Hp → VK → Prop := fun xs H Q => ∃ (u v : V) (d e : PyData), xs = [u, v] ∧ Dp K H u d ∧ Dp K H v e ∧ AlikeAll [d, e] ∧ PyData.depthAll [d, e] ≤ 60 ∧ Q (if dataLt e d = true then v else u) H
def rMaxD2 (K : PySem.W.Frag) : List V → Hp → VK → Prop := fun xs H Q => ∃ (u v : V) (d e : PyData), xs = [u, v] ∧ Dp K H u d ∧ Dp K H v e ∧ AlikeAll [d, e] ∧ PyData.depthAll [d, e] ≤ 60 ∧ Q (if dataLt d e = true then v else u) H
section
variable {X : Cx}
theorem call_minD (hc : X.calm = true) (hu : X.A.units + 65 < cLine) : CallR X (.builtin "min") (rMinD X.K) := by
  intro pins s σ H xs us Q I r h
  obtain ⟨u, v, d, e, rfl, hd, he, ha, hz, q⟩ := h
  obtain ⟨u', v', rfl, ru, rv⟩ := vals2 r
  obtain ⟨as, r1⟩ := Dp.reads I d u u' hd ru
  obtain ⟨bs, r2⟩ := Dp.reads I e v v' he rv
  refine min_two_data (I.ok.hd hc) r1 r2 ha (by omega) fun h' tk k => ⟨_, H, I.kept k, ?_, q⟩
  split
  · exact rv
  · exact ru
theorem call_maxD (hc : X.calm = true) (hu : X.A.units + 65 < cLine) : CallR X (.builtin "max") (rMaxD2 X.K) := by
  intro pins s σ H xs us Q I r h
  obtain ⟨u, v, d, e, rfl, hd, he, ha, hz, q⟩ := h
  obtain ⟨u', v', rfl, ru, rv⟩ := vals2 r
  obtain ⟨as, r1⟩ := Dp.reads I d u u' hd ru
  obtain ⟨bs, r2⟩ := Dp.reads I e v v' he rv
  refine max_two_data (I.ok.hd hc) r1 r2 ha (by omega) fun h' tk k => ⟨_, H, I.kept k, ?_, q⟩
  split
  · exact rv
  · exact ru
end
def kf (p : Addr) (x y : Tl.Sg) (z : V) : Int × Int := if z = V.ref p then ((x.1 : Int), (x.2 : Int)) else ((y.1 : Int), (y.2 : Int))
theorem kf_1 {p : Addr} {x y : Tl.Sg} : kf p x y (.ref p) = ((x.1 : Int), (x.2 : Int)) := if_pos rfl
theorem kf_2 {p q : Addr} {x y : Tl.Sg} (h : V.ref q ≠ V.ref p) : kf p x y (.ref q) = ((y.1 : Int), (y.2 : Int)) := if_neg h
theorem perm2 {α : Type} {l : List α} {a b : α} (h : l.Perm [a, b]) : l = [a, b] ∨ l = [b, a] := by
  have hl := h.length_eq
  match l, hl with
  | [c, d], _ =>
    have hc : c ∈ [a, b] := h.mem_iff.mp (List.mem_cons_self ..)
    rcases List.mem_cons.mp hc with rfl | hc
    · have z := (List.perm_cons c).mp h
      have e := List.perm_singleton.mp z
      rw [e]
      exact .inl rfl
    · have e1 := List.mem_singleton.mp hc
      subst e1
      have z := (List.perm_cons c).mp (h.trans (List.Perm.swap c a []))
      have e := List.perm_singleton.mp z
      rw [e]
      exact .inr rfl
theorem sg_alike (x y : Tl.Sg) : AlikeAll [sgD x, sgD y] := by
  refine ⟨fun a ha b hb => ?_, fun a ha => ?_⟩
  · rcases List.mem_cons.mp ha with rfl | ha <;> rcases List.mem_cons.mp hb with rfl | hb
    · rfl
    · rw [List.mem_singleton.mp hb]; rfl
    · rw [List.mem_singleton.mp ha]; rfl
    · rw [List.mem_singleton.mp ha, List.mem_singleton.mp hb]; rfl
  · rcases List.mem_cons.mp ha with rfl | ha
    · exact fun z => nomatch z
    · rw [List.mem_singleton.mp ha]; exact fun z => nomatch z
theorem sg_lt (x y : Tl.Sg) : dataLt (sgD x) (sgD y) = decide (x.1 < y.1 ∨ (x.1 = y.1 ∧ x.2 < y.2)) := by
  rw [show dataLt (sgD x) (sgD y) = _ from dataLt_ii _ _ _ _, Bool.eq_iff_iff, decide_eq_true_iff, decide_eq_true_iff]
  omega
theorem sg_depth (x y : Tl.Sg) : PyData.depthAll [sgD x, sgD y] ≤ 60 := by simp [sgD, PyData.depth, PyData.depthAll]
section
variable {K : PySem.W.Frag} {H : Hp} {Q : VK} {u v : V} {x y : Tl.Sg}
theorem r_par {i j : Nat} {ta : TA} {σ : L2.St} {H : Hp} {D : Ends} (h : ta σ H fun vs H1 => ∃ v w, vs = [v, w] ∧ D.nx ((σ.set i (some v)).set j (some w)) H1) : tPar i j ta D σ H := h
/-- min of two signs of one chunk -/
theorem r_minSg (h : x.1 = y.1) (su : SgV K H u x) (sv : SgV K H v y) (q : Q (if y.2 < x.2 then v else u) H) : rMinD K [u, v] H Q := by
  refine ⟨u, v, _, _, rfl, su.dp, sv.dp, sg_alike x y, sg_depth x y, ?_⟩
  have e : (if dataLt (sgD y) (sgD x) = true then v else u) = if y.2 < x.2 then v else u := by
    by_cases c : y.2 < x.2
    · rw [if_pos c, if_pos (by rw [sg_lt, decide_eq_true_iff]; exact .inr ⟨h.symm, c⟩)]
    · rw [if_neg c, if_neg (by rw [sg_lt, decide_eq_true_iff]; omega)]
  rw [e]
  exact q
theorem r_maxSg (h : x.1 = y.1) (su : SgV K H u x) (sv : SgV K H v y) (q : Q (if x.2 < y.2 then v else u) H) : rMaxD2 K [u, v] H Q := by
  refine ⟨u, v, _, _, rfl, su.dp, sv.dp, sg_alike x y, sg_depth x y, ?_⟩
  have e : (if dataLt (sgD x) (sgD y) = true then v else u) = if x.2 < y.2 then v else u := by
    by_cases c : x.2 < y.2
    · rw [if_pos c, if_pos (by rw [sg_lt, decide_eq_true_iff]; exact .inr ⟨h, c⟩)]
    · rw [if_neg c, if_neg (by rw [sg_lt, decide_eq_true_iff]; omega)]
  rw [e]
  exact q
end
end Dk

/-! zip of two things, each a list, a tuple or a text -/
namespace Zp
open PySem PySem.Spec PyProof.Rows L2 Dk
inductive Kd where
  | l (a : Addr)
  | t (a : Addr)
  | s (z : Str)
abbrev sgs (z : Str) : List V := (cs z).map fun c => V.str ⟨#[c]⟩
def Kd.v : Kd → V
  | .l a => .ref a
  | .t a => .ref a
  | .s z => .str z
def Kd.has (K : PySem.W.Frag) : Kd → Hp → List V → Prop
  | .l a, H, xs => SqL K H a xs
  | .t a, H, xs => SqT K H a xs
  | .s z, _, xs => xs = sgs z
def Kd.st (tk : Tok) : Kd → Addr → Nat → Heap → Prop
  | .l a, it, i, h => h.IsListIter it a i
  | .t a, it, i, h => h.IsTupleIter it a i
  | .s z, it, i, h => h.IsStrIter it (strIterType z) z tk i
def Kd.ap : Kd → Addr → Prop
  | .l a, q => a ≠ q
  | .t a, q => a ≠ q
  | .s _, _ => True
section
variable {tk : Tok} {k : Kd} {it : Addr} {i : Nat} {h h' : Heap}
theorem Kd.st_obj (st : k.st tk it i h) : ∃ o, h.get? it = some o ∧ ∀ v, o.data ≠ .cell v := by
  cases k with
  | l a => obtain ⟨o, e, _, d⟩ := st; exact ⟨o, e, fun v q => by rw [d] at q; cases q⟩
  | t a => obtain ⟨o, e, _, d⟩ := st; exact ⟨o, e, fun v q => by rw [d] at q; cases q⟩
  | s z => obtain ⟨o, e, _, d⟩ := st; exact ⟨o, e, fun v q => by rw [d] at q; cases q⟩
theorem Kd.st_keep (st : k.st tk it i h) (q : ∀ o, h.get? it = some o → h'.get? it = some o) : k.st tk it i h' := by
  cases k with
  | l a => exact Heap.IsListIter.at st q
  | t a => exact Heap.IsTupleIter.at st q
  | s z => obtain ⟨o, ho, r⟩ := st; exact ⟨o, q o ho, r⟩
end
theorem vals_at {xs : List V} {its : List Value} (rv : Vals xs its) {j : Nat} {v : Value} (h : its[j]? = some v) : ∃ x, xs[j]? = some x ∧ RelV x v := by
  have hl := rv.length
  have hj := (List.getElem?_eq_some_iff.mp h).1
  obtain ⟨x, hx⟩ : ∃ x, xs[j]? = some x := ⟨_, List.getElem?_eq_getElem (by omega)⟩
  obtain ⟨u, hu, ru⟩ := rv.get hx
  rw [h] at hu
  cases hu
  exact ⟨x, hx, ru⟩
section
variable {X : Cx} {pins : List (Addr × Obj)} {σ : L2.St} {H : Hp} {s : Shared}
theorem Kd.draws (I : Inv X pins σ H s) (hh : X.A.in1.handled = none) {k : Kd} {xs : List V} (hq : k.has X.K H xs) {it : Addr} (hne : k.ap it) {tk : Tok} {i : Nat} (st : k.st tk it i s.heap) :
    ∃ (fp : List Addr) (P : Nat → Value → Prop) (St : Nat → Heap → Prop), Draws X.prog X.w X.A.in1 it fp xs.length P St ∧ St i s.heap ∧ (∀ j v, P j v → ∃ x, xs[j]? = some x ∧ RelV x v) ∧ (∀ j h, St j h → k.st tk it j h) ∧ it ∈ fp ∧ ∀ q ∈ fp, q = it ∨ ¬ k.ap q := by
  cases k with
  | l a =>
    obtain ⟨its, rv, p, _⟩ := I.list hq
    have e : its.toArray.size = xs.length := by rw [List.size_toArray]; exact rv.length.symm
    have D := Draws.list (prog := X.prog) (w := X.w) hh it a hne its.toArray
    rw [e] at D
    refine ⟨_, _, _, D, ⟨st, p.isList⟩, fun j v hv => vals_at rv (by simpa using hv), fun j h z => z.1, by simp, fun q hq => ?_⟩
    rcases List.mem_cons.mp hq with z | z
    · exact .inl z
    · exact .inr fun c => c (List.mem_singleton.mp z).symm
  | t a =>
    obtain ⟨its, rv, p, _⟩ := I.tuple hq
    have e : its.toArray.size = xs.length := by rw [List.size_toArray]; exact rv.length.symm
    have D := Draws.tuple (prog := X.prog) (w := X.w) hh it a hne its.toArray
    rw [e] at D
    refine ⟨_, _, _, D, ⟨st, p⟩, fun j v hv => vals_at rv (by simpa using hv), fun j h z => z.1, by simp, fun q hq => ?_⟩
    rcases List.mem_cons.mp hq with z | z
    · exact .inl z
    · exact .inr fun c => c (List.mem_singleton.mp z).symm
  | s z =>
    obtain rfl : xs = sgs z := hq
    have e : z.cps.size = (sgs z).length := by simp [sgs, cs]
    have D := Draws.text (prog := X.prog) (w := X.w) hh it z tk
    rw [e] at D
    refine ⟨_, _, _, D, st, fun j v hv => ?_, fun j h q => q, by simp, fun q hq => .inl (List.mem_singleton.mp hq)⟩
    obtain ⟨c, u, hc, rfl⟩ := hv
    refine ⟨.str ⟨#[c]⟩, ?_, u, rfl⟩
    show ((cs z).map _)[j]? = _
    rw [List.getElem?_map, show (cs z)[j]? = some c by rw [Array.getElem?_toList]; exact hc]
    rfl
theorem Kd.inj (I : Inv X pins σ H s) {k : Kd} {xs ys : List V} (h1 : k.has X.K H xs) (h2 : k.has X.K H ys) : xs = ys := by
  cases k with
  | l a => exact I.list_inj h1 h2
  | t a => exact I.tuple_inj h1 h2
  | s z => exact Eq.trans h1 (Eq.symm h2)
end
structure Ap (z TI TO i1 i2 : Addr) (k1 k2 : Kd) : Prop where
  TIz : TI ≠ z
  TOz : TO ≠ z
  i1z : i1 ≠ z
  i2z : i2 ≠ z
  TITO : TI ≠ TO
  TIi1 : TI ≠ i1
  TIi2 : TI ≠ i2
  TOi1 : TO ≠ i1
  TOi2 : TO ≠ i2
  i12 : i1 ≠ i2
  a1 : k1.ap z ∧ k1.ap TO ∧ k1.ap i1 ∧ k1.ap i2
  a2 : k2.ap z ∧ k2.ap TO ∧ k2.ap i1 ∧ k2.ap i2
theorem Ap.sep {z TI TO i1 i2 : Addr} {k1 k2 : Kd} (D : Ap z TI TO i1 i2 k1 k2) {fp1 fp2 : List Addr} (m1 : i1 ∈ fp1) (f1 : ∀ q ∈ fp1, q = i1 ∨ ¬ k1.ap q) (m2 : i2 ∈ fp2) (f2 : ∀ q ∈ fp2, q = i2 ∨ ¬ k2.ap q) : ZipSep2 z TI TO i1 i2 fp1 fp2 where
  TIz := D.TIz
  TOz := D.TOz
  TITO := D.TITO
  TIi1 := D.TIi1
  mem1 := m1
  zf1 := fun h => (f1 z h).elim (fun e => D.i1z e.symm) fun n => n D.a1.1
  Tf1 := fun h => (f1 TO h).elim D.TOi1 fun n => n D.a1.2.1
  TIi2 := D.TIi2
  mem2 := m2
  zf2 := fun h => (f2 z h).elim (fun e => D.i2z e.symm) fun n => n D.a2.1
  Tf2 := fun h => (f2 TO h).elim D.TOi2 fun n => n D.a2.2.1
  sep1_2 := fun h => (f2 i1 h).elim D.i12 fun n => n D.a2.2.2.1
  sep2_1 := fun h => (f1 i2 h).elim (fun e => D.i12 e.symm) fun n => n D.a1.2.2.2
def ItzK (K : PySem.W.Frag) (k1 k2 : Kd) : It :=
  ⟨fun i H => ∃ xs ys : List V, k1.has K H xs ∧ k2.has K H ys ∧ i < xs.length ∧ i < ys.length,
    fun i H v H' => ∃ T x y, v = .ref T ∧ H T = none ∧ H' = upd H T (.tup [x, y]) ∧ (∀ xs, k1.has K H xs → xs[i]? = some x) ∧ ∀ ys, k2.has K H ys → ys[i]? = some y,
    fun i H => ∃ xs ys : List V, k1.has K H xs ∧ k2.has K H ys ∧ i ≤ xs.length ∧ i ≤ ys.length ∧ (i = xs.length ∨ i = ys.length)⟩
theorem turn_zipK {P : Program} {w : World} {K : PySem.W.Frag} {elts : List Expr} {kk : Nat} {tpos : Pos} {k1 k2 : Kd} {tk1 tk2 : Tok} {z TI TO i1 i2 : Addr} (D : Ap z TI TO i1 i2 k1 k2) :
    Turn P w K (.Tuple elts kk tpos) (ItzK K k1 k2) [z, TI, TO, i1, i2] z (fun i h => IsZip h z TI TO .none ∧ IsTupOf2 h TI (.ref i1) (.ref i2) ∧ (∃ x y, IsTupOf2 h TO x y) ∧ k1.st tk1 i1 i h ∧ k2.st tk2 i2 i h) where
  mem := by simp
  obj := fun i h st c hc => by
    obtain ⟨hz, hTI, ⟨x, y, hTO⟩, s1, s2⟩ := st
    have e' : c = z ∨ c = TI ∨ c = TO ∨ c = i1 ∨ c = i2 := by simpa using hc
    rcases e' with q | q | q | q | q
    · rw [q]; exact ⟨_, hz, fun v q => nomatch q⟩
    · rw [q]; exact ⟨_, hTI, fun v q => nomatch q⟩
    · rw [q]; exact ⟨_, hTO, fun v q => nomatch q⟩
    · rw [q]; exact Kd.st_obj s1
    · rw [q]; exact Kd.st_obj s2
  keep := fun i h h' st k => by
    obtain ⟨hz, hTI, ⟨x, y, hTO⟩, h1, h2⟩ := st
    exact ⟨k z (by simp) _ hz, k TI (by simp) _ hTI, ⟨x, y, k TO (by simp) _ hTO⟩, Kd.st_keep h1 fun o q => k i1 (by simp) o q, Kd.st_keep h2 fun o q => k i2 (by simp) o q⟩
  item := by
    intro X hP hw hK hc i pins s σ H E I hf st hg
    subst hP hw hK
    obtain ⟨hz, hTI, ⟨x0, y0, hTO⟩, h1, h2⟩ := st
    obtain ⟨xs, ys, hqx, hqy, hx, hy⟩ := hg
    have hh : X.A.in1.handled = none := I.ok.hd hc
    obtain ⟨fp1, P1, St1, D1, st1, g1, b1, m1, f1⟩ := Kd.draws I hh hqx D.a1.2.2.1 h1
    obtain ⟨fp2, P2, St2, D2, st2, g2, b2, m2, f2⟩ := Kd.draws I hh hqy D.a2.2.2.2 h2
    have S := D.sep m1 f1 m2 f2
    have hzl : z < s.heap.objs.size := Heap.lt_size hz
    refine wpAny_pyNext_zipD2_item S D1 D2 hz hTI hTO st1 st2 hx hy fun u u2 h' tk p1 p2 z' TO' s1' s2' hT hsz hk => ?_
    obtain ⟨x, hxx, ru⟩ := g1 _ _ p1
    obtain ⟨y, hyy, ru2⟩ := g2 _ _ p2
    refine ⟨_, rfl, wpAny_letOwnedTupleGo_zip (s := { s with heap := h', toks := tk }) z' fun h'' z'' sb => ?_⟩
    have hT2 : h''.get? s.heap.objs.size = some { cls := .type "tuple", data := .seq #[u, u2] } := (sb.2 _ (Nat.ne_of_gt hzl)).trans hT
    have new : ObjOk X.prog X.w (upd H s.heap.objs.size (.tup [x, y])) h'' s.heap.objs.size (.tup [x, y]) :=
      ⟨by show 2 ≤ sizeLine; decide, [u, u2], .cons ru (.cons ru2 .nil), ⟨_, hT2, rfl, _, rfl⟩⟩
    have I1 : Inv X pins σ (upd H s.heap.objs.size (.tup [x, y])) { s with heap := h'', toks := tk } :=
      I.turnedNew (t' := tk) (ch := [z, TI, TO, i1, i2]) (fun c o hb q => (sb.2 c (fun q' => hb (by simp [q']))).trans (hk c o (fun q' => hb (by simp [q'])) (fun q' => hb (by simp [q'])) (fun q' => hb (by simp [q'])) (fun q' => hb (by simp [q'])) q)) hf (Nat.le_refl _) new
    refine ⟨.ref s.heap.objs.size, _, I1, rfl, ⟨_, x, y, rfl, I.hok.fresh (Nat.le_refl _), rfl, fun l hl => by rw [Kd.inj I hl hqx]; exact hxx, fun l hl => by rw [Kd.inj I hl hqy]; exact hyy⟩, ⟨z'', ?_, ⟨u, u2, ?_⟩, ?_, ?_⟩, fun c hcm => ?_⟩
    · exact (sb.2 _ D.TIz).trans (hk _ _ D.TIz D.TITO D.TIi1 D.TIi2 hTI)
    · exact (sb.2 _ D.TOz).trans TO'
    · exact Kd.st_keep (b1 _ _ s1') fun o q => (sb.2 _ D.i1z).trans q
    · exact Kd.st_keep (b2 _ _ s2') fun o q => (sb.2 _ D.i2z).trans q
    · have hlt : c < s.heap.objs.size := by
        have e' : c = z ∨ c = TI ∨ c = TO ∨ c = i1 ∨ c = i2 := by simpa using hcm
        rcases e' with q | q | q | q | q
        · rw [q]; exact hzl
        · rw [q]; exact Heap.lt_size hTI
        · rw [q]; exact Heap.lt_size hTO
        · rw [q]; obtain ⟨_, e1, _⟩ := Kd.st_obj h1; exact Heap.lt_size e1
        · rw [q]; obtain ⟨_, e2, _⟩ := Kd.st_obj h2; exact Heap.lt_size e2
      rw [upd_ne (Nat.ne_of_lt hlt)]
      exact (hf c hcm).1
  done := by
    intro X hP hw hK hc i pins s σ H E I hf st hg
    subst hP hw hK
    obtain ⟨hz, hTI, ⟨x0, y0, hTO⟩, h1, h2⟩ := st
    obtain ⟨xs, ys, hqx, hqy, l1, l2, hend⟩ := hg
    have hh : X.A.in1.handled = none := I.ok.hd hc
    obtain ⟨fp1, P1, St1, D1, st1, g1, b1, m1, f1⟩ := Kd.draws I hh hqx D.a1.2.2.1 h1
    obtain ⟨fp2, P2, St2, D2, st2, g2, b2, m2, f2⟩ := Kd.draws I hh hqy D.a2.2.2.2 h2
    have S := D.sep m1 f1 m2 f2
    exact wpAny_pyNext_zipD2_end S D1 D2 hz hTI hTO st1 st2 l1 l2 hend fun h' tk hk => ⟨rfl, I.turnedL (t' := tk) (ch := [z, TI, TO, i1, i2]) (fun c o hb q =>
      hk c o (fun q' => hb (by simp [q'])) (fun q' => hb (by simp [q'])) (fun q' => hb (by simp [q'])) (fun q' => hb (by simp [q'])) q) hf⟩
  self := fun A i s Q E st h => wpAny_pyIter_zip st.1 h
/-- how it begins -/
theorem Kd.begins {X : Cx} {pins : List (Addr × Obj)} {σ : L2.St} {H : Hp} {s : Shared} (I : Inv X pins σ H s) {k : Kd} {xs : List V} (hq : k.has X.K H xs) {u : Value} (r : RelV k.v u) :
    ∃ (o : Obj) (HH : Heap → Prop) (tk : Tok), Begins u o HH ∧ HH s.heap ∧ (∀ it h', h'.get? it = some o → k.st tk it 0 h') ∧ ∀ q, s.heap.objs.size ≤ q → k.ap q := by
  cases k with
  | l a =>
    obtain rfl : u = Value.ref a := r
    obtain ⟨its, rv, p, _⟩ := I.list hq
    exact ⟨_, _, 0, begins_list a its.toArray, p.isList, fun it h' e => ⟨_, e, rfl, rfl⟩, fun q hq e => by rw [← e] at hq; exact absurd p.lt (Nat.not_lt.mpr hq)⟩
  | t a =>
    obtain rfl : u = Value.ref a := r
    obtain ⟨its, rv, p, _⟩ := I.tuple hq
    obtain ⟨o1, ho1, _⟩ := id p
    exact ⟨_, _, 0, begins_tuple a its.toArray, p, fun it h' e => ⟨_, e, rfl, rfl⟩, fun q hq e => by rw [← e] at hq; exact absurd (Heap.lt_size ho1) (Nat.not_lt.mpr hq)⟩
  | s z =>
    obtain ⟨t, rfl⟩ := r
    exact ⟨_, _, t, begins_text z t, trivial, fun it h' e => ⟨_, e, rfl, rfl⟩, fun _ _ => trivial⟩
theorem ne_nat {a b : Nat} (h : a ≠ b) : @Ne Addr a b := h
def iZipK (K : PySem.W.Frag) (ta : TA) : TI := fun σ H R => ta σ H fun vs H1 => ∃ k1 k2 : Kd, vs = [k1.v, k2.v] ∧ (∃ xs, k1.has K H1 xs) ∧ (∃ ys, k2.has K H1 ys) ∧ R (ItzK K k1 k2) H1
theorem pi_zipK {X : Cx} {e e2 : Expr} {ta : TA} {p pos tpos : Pos} {elts : List Expr} {kk : Nat} (hg : Gl X "zip") (hm : X.mg "zip" = none) (ha : PA X [e, e2] ta)
    (hs : starEach [e, e2] X.env = (false, eval e X.env) :: starEach [e2] X.env := by rfl) (hpl : (backTo pos (starEach [e2] X.env)).any (·.1) = false := by rfl) :
    PI X (.Tuple elts kk tpos) (.Call (.Name "zip" p) [e, e2] [] pos) (iZipK X.K ta) := by
  refine ⟨fun pins s σ H R I h => ?_⟩
  refine Call_ (ld_blt I hg hm PyProof.Rows.boot_zip (PyProof.Rows.callWith_type1 (thn (ha.run pos pins s σ H _ I h) fun us s1 ⟨vs, H1, I1, r1, q1⟩ => ?_) hs hpl))
  obtain ⟨k1, k2, ex, ⟨xs, hx⟩, ⟨ys, hy⟩, q⟩ := q1
  subst ex
  cases r1 with
  | cons r rr =>
    cases rr with
    | cons r' rr =>
      cases rr
      obtain ⟨o1, HH1, tk1, B1, g1, st1, ap1⟩ := Kd.begins I1 hx r
      obtain ⟨o2, HH2, tk2, B2, g2, st2, ap2⟩ := Kd.begins I1 hy r'
      refine zip_begins2 B1 B2 g1 g2 fun h' hz hTI hTO h1 h2 hsz hk => wpAny_pyIter_zip hz ?_
      have I2 : Inv X pins σ H1 { s1 with heap := h' } := I1.kept (t' := s1.toks) hk
      have fresh5 : ∀ c, c ∈ [s1.heap.objs.size + 4, s1.heap.objs.size + 2, s1.heap.objs.size + 3, s1.heap.objs.size, s1.heap.objs.size + 1] → FpOk X pins H1 c := fun c hcm => by
        have hle : s1.heap.objs.size ≤ c := by
          have e' : c = s1.heap.objs.size + 4 ∨ c = s1.heap.objs.size + 2 ∨ c = s1.heap.objs.size + 3 ∨ c = s1.heap.objs.size ∨ c = s1.heap.objs.size + 1 := by simpa using hcm
          omega
        exact I1.fpOk hle (I1.hok.fresh hle)
      have ap : Ap (s1.heap.objs.size + 4) (s1.heap.objs.size + 2) (s1.heap.objs.size + 3) s1.heap.objs.size (s1.heap.objs.size + 1) k1 k2 :=
        ⟨ne_nat (by omega), ne_nat (by omega), ne_nat (by omega), ne_nat (by omega), ne_nat (by omega), ne_nat (by omega), ne_nat (by omega), ne_nat (by omega), ne_nat (by omega), ne_nat (by omega), ⟨ap1 _ (by omega), ap1 _ (by omega), ap1 _ (by omega), ap1 _ (by omega)⟩, ⟨ap2 _ (by omega), ap2 _ (by omega), ap2 _ (by omega), ap2 _ (by omega)⟩⟩
      exact ⟨s1.heap.objs.size + 4, [s1.heap.objs.size + 4, s1.heap.objs.size + 2, s1.heap.objs.size + 3, s1.heap.objs.size, s1.heap.objs.size + 1], _, _, H1, rfl, I2, turn_zipK (tk1 := tk1) (tk2 := tk2) ap, ⟨hz, hTI, ⟨_, _, hTO⟩, st1 _ _ h1, st2 _ _ h2⟩, fresh5, q⟩
/-! as walks -/
theorem walk_zipK {K : PySem.W.Frag} {k1 k2 : Kd} {xs ys : List V} {n : Nat} (hn : n = min xs.length ys.length) :
    Walk (ItzK K k1 k2) n (fun H => k1.has K H xs ∧ k2.has K H ys) (fun i H v H' => ∃ T x y, v = .ref T ∧ H T = none ∧ H' = upd H T (.tup [x, y]) ∧ xs[i]? = some x ∧ ys[i]? = some y) :=
  ⟨fun i H hi g => ⟨xs, ys, g.1, g.2, by omega, by omega⟩, fun H g => ⟨xs, ys, g.1, g.2, by omega, by omega, by omega⟩, fun i H v H' hi g y => by
    obtain ⟨T, x, y, h1, h2, h3, h4, h5⟩ := y
    exact ⟨T, x, y, h1, h2, h3, h4 xs g.1, h5 ys g.2⟩⟩
end Zp

/-! rules of our own: text[::-1], min of a list of tuples of numbers -/
namespace Dk
open PySem PySem.Spec PyProof.Rows L2 PySem.SeqAt PySem.W
/-! text[::-1] -/
def revS (z : Str) : Str := ⟨(cs z).reverse.toArray⟩
theorem cs_rev (z : Str) : cs (revS z) = (cs z).reverse := List.toList_toArray
theorem rev_len (z : Str) : (revS z).length = z.length := by rw [← cs_len, cs_rev, List.length_reverse, cs_len]
theorem rev_made (z : Str) (t u : Tok) : sliceMade z t none none (some (-1, u)) = Made.str (revS z) := by
  have e : slicePicked z none none (some (-1, u)) = (List.range z.length).reverse := by
    show sliceRange ((z.length : Int) - 1) (-1) (-1) = _
    rw [krv_sliceRange, krv_range]
  unfold sliceMade
  rw [e]
  have e2 : ((Option.map (fun x => x.1) (some ((-1 : Int), u))).getD 1 == 1 && ((List.range z.length).reverse.length == z.length)) = false := by
    have : ((-1 : Int) == 1) = false := by decide
    show (((-1 : Int) == 1) && _) = false
    rw [this, Bool.false_and]
  rw [if_neg (by rw [e2]; exact Bool.false_ne_true)]
  congr 1
  unfold revS
  congr 1
  have e3 : ((List.range z.length).reverse.filterMap (z.cps[·]?)) = (cs z).reverse := by
    rw [List.filterMap_reverse]
    congr 1
    exact krv_all z.cps
  rw [e3]
def tRevS (te : TE) : TE := fun σ H Q => te σ H fun x H1 => ∃ z, x = .str z ∧ z.length ≤ sizeLine ∧ Q (.str (revS z)) H1
theorem pe_revS {X : Cx} {e st : Expr} {te ts : TE} {pos p2 : Pos} (he : PE X e te) (hst : PE X st ts) (hv : ∀ σ H (Q : VK), Q (.int (-1)) H → ts σ H Q) : PE X (.Subscript e (.Slice none none (some st) p2) pos) (tRevS te) := by
  refine ⟨fun pins s σ H Q I h => ?_⟩
  refine Subscript_ (thn (he.run pins s σ H _ I h) fun v s1 ⟨x, H1, I1, r1, q1⟩ => ?_)
  obtain ⟨z, rfl, hz, q⟩ := q1
  obtain ⟨t, rfl⟩ := r1
  refine wpAny_Slice ?_
  rw [evalPart_none]
  refine wpAny_pure ?_
  refine wpAny_pure ?_
  rw [evalPart_some]
  refine thn (hst.run pins s1 σ H1 _ I1 (hv σ H1 (fun y H2 => y = .int (-1) ∧ H2 = H1) ⟨rfl, rfl⟩)) fun u s2 ⟨y, H2, I2, ry, qy, eH⟩ => ?_
  subst qy eH
  obtain ⟨tk, rfl⟩ := ry
  have I3 : Inv X pins σ H2 { s2 with heap := s2.heap.push { cls := .type "slice", data := .fields #[.none, .none, .int (-1) tk] } } := I2.kept (t' := s2.toks) fun b ob q => Heap.get?_push_of_some _ q
  show wpAny (model X.prog X.w) X.A (subscriptTail e (.Slice none none (some st) p2) (.str z t) (.ref s2.heap.objs.size)) (EP X pins σ Q) X.xe { s2 with heap := s2.heap.push { cls := .type "slice", data := .fields #[.none, .none, .int (-1) tk] } }
  refine tail_any (ops := [.ref s2.heap.objs.size, .str z t]) (typeIs_str _ z t) F.slot_str_getitem.lookup ?_ (by with_unfolding_all rfl)
  refine wpAny_getItem_str_slice (l := none) (u := none) (st := some (-1, tk)) ⟨_, Heap.get?_push_size _ rfl, rfl, rfl⟩ rfl ?_
  rw [rev_made]
  exact ⟨by rw [rev_len]; exact hz, .str _, H2, I3.tok _, ⟨_, rfl⟩, q⟩
theorem r_revS {te : TE} {σ : L2.St} {H : Hp} {Q : VK} (h : te σ H fun x H1 => ∃ z, x = .str z ∧ z.length ≤ sizeLine ∧ Q (.str (revS z)) H1) : tRevS te σ H Q := h
theorem r_revZ {z : Str} {H : Hp} {Q : VK} (hz : z.length ≤ 8000) (q : Q (.str (revS z)) H) : ∃ y, V.str z = .str y ∧ y.length ≤ sizeLine ∧ Q (.str (revS y)) H := ⟨z, rfl, by rw [sizeLine_eq]; omega, q⟩
/-! zip -/
theorem r_forZo {K : PySem.W.Frag} {ta : TA} {g : TG} {tb : TS} {D : Ends} {σ : L2.St} {H : Hp} (h : ta σ H fun vs H1 => ∃ k1 k2 : Zp.Kd, vs = [k1.v, k2.v] ∧ (∃ xs, k1.has K H1 xs) ∧ (∃ ys, k2.has K H1 ys) ∧ LoopW (Zp.ItzK K k1 k2) g tb D σ H1) : tFor (Zp.iZipK K ta) g tb D σ H := h
theorem sgs_at {z : Str} {i : Nat} {x : V} (h : (Zp.sgs z)[i]? = some x) : ∃ c, (cs z)[i]? = some c ∧ x = .str ⟨#[c]⟩ := by
  rw [List.getElem?_map] at h
  obtain ⟨c, hc, rfl⟩ := Option.map_eq_some_iff.mp h
  exact ⟨c, hc, rfl⟩
/-- over zip(text, text) -/
theorem l_ZS {K : PySem.W.Frag} {x y : Str} {g : TG} {tb : TS} {D : Ends} {σ : L2.St} {H : Hp} (Pv : Nat → L2.St → Hp → Prop) (p0 : Pv 0 σ H)
    (ht : ∀ i c d σ H p, (cs x)[i]? = some c → (cs y)[i]? = some d → Pv i σ H → H p = none → g (.ref p) σ (upd H p (.tup [.str ⟨#[c]⟩, .str ⟨#[d]⟩])) fun σ2 H2 => tb { D with nx := Pv (i + 1), ct := Pv (i + 1), bk := D.nx } σ2 H2)
    (hd : ∀ σ H, Pv (min x.length y.length) σ H → D.nx σ H) :
    ∃ k1 k2 : Zp.Kd, [V.str x, V.str y] = [k1.v, k2.v] ∧ (∃ xs, k1.has K H xs) ∧ (∃ ys, k2.has K H ys) ∧ LoopW (Zp.ItzK K k1 k2) g tb D σ H := by
  refine ⟨.s x, .s y, rfl, ⟨_, rfl⟩, ⟨_, rfl⟩, for_it (Zp.walk_zipK (xs := Zp.sgs x) (ys := Zp.sgs y) rfl) Pv p0 (fun _ _ _ _ _ => ⟨rfl, rfl⟩) (fun i v σ H H' hi p yy => ?_) fun σ H p => hd σ H ?_⟩
  · obtain ⟨T, a, b, rfl, hT, rfl, ha, hb⟩ := yy
    obtain ⟨c, hc, rfl⟩ := sgs_at ha
    obtain ⟨d, hd', rfl⟩ := sgs_at hb
    exact ht i c d σ H T hc hd' p hT
  · rw [List.length_map, List.length_map, cs_len, cs_len] at p
    exact p
/-! min of a list of data -/
section
variable {prog : Program} {w : World} {A : Around} {E : Value → Shared → Prop} {s : Shared}
theorem min_list_at {l : Addr} {vs : Array Value} {xs : List PyData} {as : List Addr} {Q : Value → Shared → Prop} (hh : A.handled = none) (hl : s.heap.IsList l vs) (hr : ReadsAll s.heap vs.toList xs as) (h0 : 0 < xs.length) (ha : AlikeAll xs) (hu : A.units + 1 + PyData.depthAll xs < cLine)
    (h : ∀ v h' tk, vs[argBest (fun i j => dataLt (xs.getD i .none) (xs.getD j .none)) (xs.length - 1)]? = some v → (∀ b o, s.heap.get? b = some o → h'.get? b = some o) → Q v { s with heap := h', toks := tk }) :
    wpAny (model prog w) A (call (.builtin "min") [.ref l]) Q E s := by
  have hn : vs.size = xs.length := readsAll_len hr
  refine call_min_walkH (iter_listW (A := A.in1) hh hl fun s₂ e W st hfp hw hk => ?_)
  refine ⟨_, _, _, _, _, _, _, s.heap, _, rfl, W, st, hfp, by omega, hw, hk, cmpIn_lt (A := A.in1) hr ha (by show A.units + 1 + _ < _; exact hu), fun v s' hP m => ?_⟩
  obtain ⟨h', tk, rfl, hk'⟩ := moved_old e rfl m
  rw [hn] at hP
  exact h v h' tk hP hk'
end
theorem dpall_reads {X : Cx} {pins : List (Addr × Obj)} {σ : L2.St} {H : Hp} {s : Shared} (I : Inv X pins σ H s) : ∀ {xs : List V} {ds : List PyData} {its : List Value}, DpAll X.K H xs ds → Vals xs its → ∃ as, ReadsAll s.heap its ds as
  | _, _, _, .nil, .nil => ⟨_, .nil⟩
  | _, _, _, .cons h t, .cons r q => by
    obtain ⟨as, r1⟩ := Dp.reads I _ _ _ h r
    obtain ⟨bs, r2⟩ := dpall_reads I t q
    exact ⟨_, .cons r1 r2⟩
def rMinLs (K : PySem.W.Frag) : List V → Hp → VK → Prop := fun vs H Q => ∃ (p : Addr) (xs : List V) (ds : List PyData), vs = [.ref p] ∧ SqL K H p xs ∧ DpAll K H xs ds ∧ 0 < ds.length ∧ AlikeAll ds ∧ PyData.depthAll ds ≤ 60 ∧
  ∀ v, xs[argBest (fun i j => dataLt (ds.getD i .none) (ds.getD j .none)) (ds.length - 1)]? = some v → Q v H
theorem call_minLs {X : Cx} (hc : X.calm = true) (hu : X.A.units + 65 < cLine) : CallR X (.builtin "min") (rMinLs X.K) := by
  intro pins s σ H vs us Q I r h
  obtain ⟨p, xs, ds, rfl, hp, hd, h0, ha, hz, q⟩ := h
  rw [Vals.ref1 r]
  obtain ⟨its, rv, hl, _⟩ := I.list hp
  obtain ⟨as, hr⟩ : ∃ as, ReadsAll s.heap its ds as := dpall_reads I hd rv
  refine min_list_at (I.ok.hd hc) hl.isList (by simpa using hr) h0 ha (by omega) fun v h' tk hv k => ?_
  obtain ⟨x, hx, rx⟩ := Zp.vals_at rv (by simpa using hv)
  exact ⟨x, H, I.kept k, rx, q x hx⟩
/-- the best by a transitive relation: none is less -/
theorem best_least {bt : Nat → Nat → Bool} (tr : ∀ i j k, bt i j = true → bt j k = true → bt i k = true) (irr : ∀ i, bt i i = false) : ∀ n, argBest bt n ≤ n ∧ ∀ j, j ≤ n → bt j (argBest bt n) = false
  | 0 => ⟨Nat.le_refl _, fun j hj => by
    have e : j = 0 := by omega
    subst e
    exact irr 0⟩
  | n + 1 => by
    obtain ⟨h1, h2⟩ := best_least tr irr n
    show (if bt (n + 1) (argBest bt n) = true then n + 1 else argBest bt n) ≤ n + 1 ∧ ∀ j, j ≤ n + 1 → bt j (if bt (n + 1) (argBest bt n) = true then n + 1 else argBest bt n) = false
    by_cases c : bt (n + 1) (argBest bt n) = true
    · rw [if_pos c]
      refine ⟨Nat.le_refl _, fun j hj => ?_⟩
      by_cases e : j = n + 1
      · subst e
        exact irr _
      · cases d : bt j (n + 1) with
        | false => rfl
        | true =>
          have z := tr j (n + 1) _ d c
          rw [h2 j (by omega)] at z
          cases z
    · rw [if_neg c]
      refine ⟨by omega, fun j hj => ?_⟩
      by_cases e : j = n + 1
      · subst e
        simpa using c
      · exact h2 j (by omega)
theorem lt_ints (a b : Int) (xs ys : List PyData) : dataLt (.tuple (.int a :: xs)) (.tuple (.int b :: ys)) = if a = b then dataLt (.tuple xs) (.tuple ys) else decide (a < b) := by
  rw [dataLt_tuple]
  show PyProof.Rows.lexLt itemOrd ([.inl 1] ++ (keyToks (.int a) ++ keyToksAll xs)) ([.inl 1] ++ (keyToks (.int b) ++ keyToksAll ys)) = _
  rw [lex_pre]
  by_cases h : a = b
  · subst h
    rw [lex_pre, if_pos rfl, dataLt_tuple]
  · rw [if_neg h]
    show PyProof.Rows.lexLt itemOrd (.inl a :: keyToksAll xs) (.inl b :: keyToksAll ys) = _
    rw [lex_atom (by intro z; exact h (Sum.inl.inj z))]
    exact dataLt_int a b
/-! four numbers -/
abbrev Q4 := Int × Int × Int × Int
abbrev q4D (x : Q4) : PyData := .tuple [.int x.1, .int x.2.1, .int x.2.2.1, .int x.2.2.2]
def q4Lt (x y : Q4) : Prop := x.1 < y.1 ∨ (x.1 = y.1 ∧ (x.2.1 < y.2.1 ∨ (x.2.1 = y.2.1 ∧ (x.2.2.1 < y.2.2.1 ∨ (x.2.2.1 = y.2.2.1 ∧ x.2.2.2 < y.2.2.2)))))
theorem q4_lt (x y : Q4) : dataLt (q4D x) (q4D y) = true ↔ q4Lt x y := by
  unfold q4Lt
  show dataLt (.tuple (.int x.1 :: _)) (.tuple (.int y.1 :: _)) = true ↔ _
  rw [lt_ints]
  by_cases h1 : x.1 = y.1
  · rw [if_pos h1, lt_ints]
    by_cases h2 : x.2.1 = y.2.1
    · rw [if_pos h2, lt_ints]
      by_cases h3 : x.2.2.1 = y.2.2.1
      · rw [if_pos h3, lt_ints]
        by_cases h4 : x.2.2.2 = y.2.2.2
        · rw [if_pos h4]
          have e : dataLt (.tuple []) (.tuple []) = false := by decide +kernel
          rw [e]
          constructor
          · intro z
            cases z
          · intro z
            omega
        · rw [if_neg h4, decide_eq_true_iff]
          omega
      · rw [if_neg h3, decide_eq_true_iff]
        omega
    · rw [if_neg h2, decide_eq_true_iff]
      omega
  · rw [if_neg h1, decide_eq_true_iff]
    omega
def Q4V (H : Hp) (v : V) (x : Q4) : Prop := ∃ p, v = .ref p ∧ H p = some (.tup [.int x.1, .int x.2.1, .int x.2.2.1, .int x.2.2.2])
instance : Imm Q4V := ⟨fun t h => h.imp fun p z => ⟨z.1, t _ _ z.2⟩⟩
theorem Q4V.dp {K : PySem.W.Frag} {H : Hp} {v : V} {x : Q4} (h : Q4V H v x) : Dp K H v (q4D x) := by
  obtain ⟨p, rfl, hp⟩ := h
  exact .tup (sqT hp) (.cons (.int _) (.cons (.int _) (.cons (.int _) (.cons (.int _) .nil))))
theorem q4_dps {K : PySem.W.Frag} {H : Hp} {xs : List V} {l : List Q4} (h : P2 (Q4V H) xs l) : DpAll K H xs (l.map q4D) := by
  induction h with
  | nil => exact .nil
  | cons h t ih => exact .cons (Q4V.dp h) ih
/-- min(l), l a list of tuples of four numbers -/
theorem r_minQ4 {K : PySem.W.Frag} {H : Hp} {Q : VK} {p : Addr} {xs : List V} {l : List Q4} (hp : H p = some (.lst xs)) (h : P2 (Q4V H) xs l) (h0 : 0 < l.length) (q : ∀ v x, Q4V H v x → x ∈ l → (∀ y ∈ l, ¬ q4Lt y x) → Q v H) : rMinLs K [.ref p] H Q := by
  have dep : PyData.depthAll (l.map q4D) ≤ 60 := by
    clear h0 q h
    induction l with
    | nil => decide
    | cons x r ih =>
      show max (q4D x).depth (PyData.depthAll (r.map q4D)) ≤ 60
      have e : (q4D x).depth ≤ 2 := by simp [q4D, PyData.depth, PyData.depthAll]
      omega
  refine ⟨p, xs, l.map q4D, rfl, sqL hp, q4_dps h, by rw [List.length_map]; exact h0, ⟨fun a ha b hb => ?_, fun a ha z => ?_⟩, dep, fun v hv => ?_⟩
  · obtain ⟨x, _, rfl⟩ := List.mem_map.mp ha
    obtain ⟨y, _, rfl⟩ := List.mem_map.mp hb
    rfl
  · obtain ⟨x, _, rfl⟩ := List.mem_map.mp ha
    cases z
  · rw [List.length_map] at hv
    obtain ⟨x, hx, sx⟩ := h.get hv
    have gd : ∀ {i : Nat} {y : Q4}, l[i]? = some y → (l.map q4D).getD i .none = q4D y := fun {i y} e => by
      rw [List.getD_eq_getElem?_getD, List.getElem?_map, e]; rfl
    have at_ : ∀ i, i < l.length → ∃ y, l[i]? = some y := fun i hi => ⟨_, List.getElem?_eq_getElem hi⟩
    have lt0 : ∀ i, l.length ≤ i → (l.map q4D).getD i .none = PyData.none := fun i hi => by
      rw [List.getD_eq_getElem?_getD, List.getElem?_eq_none (by rw [List.length_map]; exact hi)]; rfl
    refine q v x sx (List.mem_of_getElem? hx) fun y hy hlt => ?_
    obtain ⟨j, hj⟩ := List.getElem?_of_mem hy
    have hjl := (List.getElem?_eq_some_iff.mp hj).1
    -- the best is least: by walking along
    have key : ∀ n, n < l.length → ∃ b, l[argBest (fun i j => dataLt ((l.map q4D).getD i .none) ((l.map q4D).getD j .none)) n]? = some b ∧ ∀ j y, j ≤ n → l[j]? = some y → ¬ q4Lt y b := by
      intro n
      induction n with
      | zero =>
        intro hn
        obtain ⟨b, hb⟩ := at_ 0 hn
        refine ⟨b, hb, fun j y hj hy => ?_⟩
        have e : j = 0 := by omega
        subst e
        rw [hb] at hy
        rw [Option.some.inj hy]
        unfold q4Lt
        omega
      | succ n ih =>
        intro hn
        obtain ⟨b, hb, hmin⟩ := ih (by omega)
        obtain ⟨c, hc⟩ := at_ (n + 1) hn
        show ∃ b, l[if dataLt ((l.map q4D).getD (n + 1) .none) ((l.map q4D).getD (argBest _ n) .none) = true then n + 1 else argBest _ n]? = some b ∧ _
        rw [gd hc, gd hb]
        by_cases e : dataLt (q4D c) (q4D b) = true
        · rw [if_pos e]
          have e' := (q4_lt c b).mp e
          refine ⟨c, hc, fun j y hj hy h => ?_⟩
          by_cases ej : j = n + 1
          · subst ej
            rw [hc] at hy
            cases hy
            unfold q4Lt at h
            omega
          · refine hmin j y (by omega) hy ?_
            unfold q4Lt at h e' ⊢
            omega
        · rw [if_neg e]
          refine ⟨b, hb, fun j y hj hy h => ?_⟩
          by_cases ej : j = n + 1
          · subst ej
            rw [hc] at hy
            cases hy
            exact e ((q4_lt _ _).mpr h)
          · exact hmin j y (by omega) hy h
    obtain ⟨b, hb, hmin⟩ := key (l.length - 1) (by omega)
    rw [hx] at hb
    cases hb
    exact hmin j y (by omega) hj hlt
end Dk

/-! list(zip(a, b)), a and b each a list, a tuple or a text -/
namespace Zl
open PySem PySem.Spec PyProof.Rows L2 Dk Zp PySem.W
section
variable {prog : Program} {w : World} {A : Around} {E : Value → Shared → Prop} {s : Shared} {z TI TO T i1 i2 : Addr} {fp1 fp2 : List Addr} {f : Bool} {oT : Obj} {i n1 n2 : Nat} {P1 P2 : Nat → Value → Prop} {St1 St2 : Nat → Heap → Prop}
theorem next_item_held {Q : Value → Shared → Prop} (S : ZipSep2 z TI TO i1 i2 fp1 fp2) (D1 : Draws prog w A i1 fp1 n1 P1 St1) (D2 : Draws prog w A i2 fp2 n2 P2 St2)
    (hz : IsZipHeld s.heap z TI TO T f) (hT : s.heap.get? T = some oT) (hTI : IsTupOf2 s.heap TI (.ref i1) (.ref i2)) (st1 : St1 i s.heap) (st2 : St2 i s.heap) (hlt1 : i < n1) (hlt2 : i < n2)
    (hQ : ∀ x1 x2 h' tk, P1 i x1 → P2 i x2 → IsZipHeld h' z TI TO T true → St1 (i + 1) h' → St2 (i + 1) h' → IsTupOf2 h' s.heap.objs.size x1 x2 → h'.objs.size = s.heap.objs.size + 1 →
      (∀ c o, c ≠ z → c ≠ i1 → c ≠ i2 → s.heap.get? c = some o → h'.get? c = some o) → Q (.ref s.heap.objs.size) { s with heap := h', toks := tk }) :
    wpAny (model prog w) A (Builtin.«zip.__next__» ⟨[.ref z], []⟩) (fun fin s' => ∃ v, fin = .done (.ret v) ∧ Q v s') E s := by
  obtain ⟨hp, g, d, tk0, os⟩ := s
  show wpAny _ _ (field (.ref z) 2 >>= _) _ _ _
  refine wpAny_bind (wpAny_field hz rfl (x := .bool false) rfl ?_)
  show wpAny _ _ (field (.ref z) 3 >>= _) _ _ _
  refine wpAny_bind (wpAny_field hz rfl (x := .ref TI) rfl ?_)
  refine wpAny_bind (wpAny_seqItems hTI rfl ?_)
  show wpAny _ _ (Builtin.SmallTypes.ownedTupleIsFree (.ref z) >>= _) _ _ _
  refine wpAny_bind (wpAny_tupleHeld_zip hz hT fun h₁ hz₁ hs₁ => ?_)
  replace hs₁ : Heap.SameBut z hp h₁ := hs₁
  simp only [Bool.false_eq_true, if_false]
  refine wpAny_bind ?_
  rw [← Array.forIn_toList]
  simp only [List.forIn_cons, List.forIn_nil]
  refine wpAny_bind (wpAny_bind (wpAny_holding ?_))
  show wpAny _ _ (Builtin.SmallTypes.nextOf (.ref i1) >>= _) _ _ ⟨h₁, g, d, tk0, os⟩
  refine wpAny_bind (D1.item i _ _ _ hlt1 (D1.over st1 hs₁ S.zf1) fun x1 p1 tk1 hx1 sn1 hp1 => wpAny_pure ?_)
  replace hp1 : Heap.SameBut i1 h₁ p1 := hp1
  refine wpAny_pure ?_
  refine wpAny_bind (wpAny_bind (wpAny_holding ?_))
  show wpAny _ _ (Builtin.SmallTypes.nextOf (.ref i2) >>= _) _ _ ⟨p1, g, d, tk1, os⟩
  refine wpAny_bind (D2.item i _ _ _ hlt2 (D2.over (D2.over st2 hs₁ S.zf2) hp1 S.sep1_2) fun x2 p2 tk2 hx2 sn2 hp2 => wpAny_pure ?_)
  replace hp2 : Heap.SameBut i2 p1 p2 := hp2
  refine wpAny_pure (wpAny_pure ?_)
  show wpAny _ _ (newTuple [x1, x2] >>= _) _ _ ⟨p2, g, d, tk2, os⟩
  refine wpAny_bind (wpAny_newTuple ?_)
  have hsz : p2.objs.size = hp.objs.size := by rw [hp2.1, hp1.1, hs₁.1]
  have hz₃ : IsZipHeld p2 z TI TO T true := hp2.extBut _ _ S.zi2 (hp1.extBut _ _ S.zi1 hz₁)
  have hk : ∀ c o, c ≠ z → c ≠ i1 → c ≠ i2 → hp.get? c = some o → p2.get? c = some o := fun c o c1 c2 c3 e => hp2.extBut _ _ c3 (hp1.extBut _ _ c2 (hs₁.extBut _ _ c1 e))
  have hj1 : St1 (i + 1) p2 := D1.over sn1 hp2 S.sep2_1
  refine wpAny_pure ⟨_, rfl, ?_⟩
  show Q (.ref p2.objs.size) ⟨p2.push { cls := .type "tuple", data := .seq #[x1, x2] }, g, d, tk2, os⟩
  have up : ∀ c o, p2.get? c = some o → (p2.push { cls := .type "tuple", data := .seq #[x1, x2] }).get? c = some o := fun c o e => Heap.get?_push_of_some _ e
  have hpT : IsTupOf2 (p2.push { cls := .type "tuple", data := .seq #[x1, x2] }) p2.objs.size x1 x2 := Heap.get?_push_size _ rfl
  have hz4 : (p2.push { cls := .type "tuple", data := .seq #[x1, x2] }).objs.size = p2.objs.size + 1 := Heap.size_push ..
  rw [hsz] at hpT hz4 ⊢
  exact hQ x1 x2 _ tk2 hx1 hx2 (up _ _ hz₃) (D1.frame _ _ _ hj1 fun b _ o e => up b o e) (D2.frame _ _ _ sn2 fun b _ o e => up b o e) hpT hz4 fun c o c1 c2 c3 e => up c o (hk c o c1 c2 c3 e)
theorem next_end_held {Q : Fin → Shared → Prop} (S : ZipSep2 z TI TO i1 i2 fp1 fp2) (D1 : Draws prog w A i1 fp1 n1 P1 St1) (D2 : Draws prog w A i2 fp2 n2 P2 St2)
    (hz : IsZipHeld s.heap z TI TO T f) (hT : s.heap.get? T = some oT) (hTI : IsTupOf2 s.heap TI (.ref i1) (.ref i2)) (st1 : St1 i s.heap) (st2 : St2 i s.heap) (hle1 : i ≤ n1) (hle2 : i ≤ n2) (hend : i = n1 ∨ i = n2)
    (hE : ∀ h' tk e, (∀ c o, c ≠ z → c ≠ i1 → c ≠ i2 → s.heap.get? c = some o → h'.get? c = some o) → (∃ o, h'.get? e = some o ∧ o.cls = .type "StopIteration") → E (.ref e) { s with heap := h', toks := tk }) :
    wpAny (model prog w) A (Builtin.«zip.__next__» ⟨[.ref z], []⟩) Q E s := by
  obtain ⟨hp, g, d, tk0, os⟩ := s
  show wpAny _ _ (field (.ref z) 2 >>= _) _ _ _
  refine wpAny_bind (wpAny_field hz rfl (x := .bool false) rfl ?_)
  show wpAny _ _ (field (.ref z) 3 >>= _) _ _ _
  refine wpAny_bind (wpAny_field hz rfl (x := .ref TI) rfl ?_)
  refine wpAny_bind (wpAny_seqItems hTI rfl ?_)
  show wpAny _ _ (Builtin.SmallTypes.ownedTupleIsFree (.ref z) >>= _) _ _ _
  refine wpAny_bind (wpAny_tupleHeld_zip hz hT fun h₁ hz₁ hs₁ => ?_)
  replace hs₁ : Heap.SameBut z hp h₁ := hs₁
  simp only [Bool.false_eq_true, if_false]
  refine wpAny_bind ?_
  rw [← Array.forIn_toList]
  simp only [List.forIn_cons, List.forIn_nil]
  refine wpAny_bind (wpAny_bind (wpAny_holding ?_))
  show wpAny _ _ (Builtin.SmallTypes.nextOf (.ref i1) >>= _) _ _ ⟨h₁, g, d, tk0, os⟩
  by_cases hlt1 : i < n1
  · refine wpAny_bind (D1.item i _ _ _ hlt1 (D1.over st1 hs₁ S.zf1) fun x1 p1 tk1 hx1 sn1 hp1 => wpAny_pure ?_)
    replace hp1 : Heap.SameBut i1 h₁ p1 := hp1
    have hi2 : i = n2 := by omega
    refine wpAny_pure ?_
    refine wpAny_bind (wpAny_bind (wpAny_holding ?_))
    show wpAny _ _ (Builtin.SmallTypes.nextOf (.ref i2) >>= _) _ _ ⟨p1, g, d, tk1, os⟩
    refine wpAny_bind (D2.done ⟨p1, g, d, tk1, os⟩ _ _ (by rw [← hi2]; exact D2.over (D2.over st2 hs₁ S.zf2) hp1 S.sep1_2) fun q e hq he => ?_)
    replace hq : Heap.ExtBut i2 p1 q := hq
    exact hE q tk1 e (fun c o cz c1 c2 x => hq _ _ c2 (hp1.extBut _ _ c1 (hs₁.extBut _ _ cz x))) he
  · have hi1 : i = n1 := by omega
    refine wpAny_bind (D1.done ⟨h₁, g, d, tk0, os⟩ _ _ (by rw [← hi1]; exact D1.over st1 hs₁ S.zf1) fun q e hq he => ?_)
    replace hq : Heap.ExtBut i1 h₁ q := hq
    exact hE q tk0 e (fun c o cz c1 c2 x => hq _ _ c1 (hs₁.extBut _ _ cz x)) he
theorem pyNext_item_held {Q : Option Value → Shared → Prop} (S : ZipSep2 z TI TO i1 i2 fp1 fp2) (D1 : Draws prog w A.in1 i1 fp1 n1 P1 St1) (D2 : Draws prog w A.in1 i2 fp2 n2 P2 St2)
    (hz : IsZipHeld s.heap z TI TO T f) (hT : s.heap.get? T = some oT) (hTI : IsTupOf2 s.heap TI (.ref i1) (.ref i2)) (st1 : St1 i s.heap) (st2 : St2 i s.heap) (hlt1 : i < n1) (hlt2 : i < n2)
    (hQ : ∀ x1 x2 h' tk, P1 i x1 → P2 i x2 → IsZipHeld h' z TI TO T true → St1 (i + 1) h' → St2 (i + 1) h' → IsTupOf2 h' s.heap.objs.size x1 x2 → h'.objs.size = s.heap.objs.size + 1 →
      (∀ c o, c ≠ z → c ≠ i1 → c ≠ i2 → s.heap.get? c = some o → h'.get? c = some o) → Q (some (.ref s.heap.objs.size)) { s with heap := h', toks := tk }) :
    wpAny (model prog w) A (pyNext (.ref z)) Q E s := by
  have hTy : s.TypeIs (.ref z) "zip" := ⟨_, hz, rfl⟩
  unfold pyNext
  exact wpAny_bind (wpAny_attempt (wpAny_callSpecial?_slot (name := Str.ofString "__next__") hTy F.slot_zip_next
    (wpAny_call_entry F.slot_zip_next hTy F.entry_zip_next
      (next_item_held S D1 D2 hz hT hTI st1 st2 hlt1 hlt2 fun x1 x2 h' tk y1 y2 b1 d1 d2 b5 b6 b7 => wpAny_pure (hQ x1 x2 h' tk y1 y2 b1 d1 d2 b5 b6 b7)) (F.args_zip_next_1 _))))
theorem pyNext_end_held {Q : Option Value → Shared → Prop} (S : ZipSep2 z TI TO i1 i2 fp1 fp2) (D1 : Draws prog w A.in1 i1 fp1 n1 P1 St1) (D2 : Draws prog w A.in1 i2 fp2 n2 P2 St2)
    (hz : IsZipHeld s.heap z TI TO T f) (hT : s.heap.get? T = some oT) (hTI : IsTupOf2 s.heap TI (.ref i1) (.ref i2)) (st1 : St1 i s.heap) (st2 : St2 i s.heap) (hle1 : i ≤ n1) (hle2 : i ≤ n2) (hend : i = n1 ∨ i = n2)
    (hQ : ∀ h' tk, (∀ c o, c ≠ z → c ≠ i1 → c ≠ i2 → s.heap.get? c = some o → h'.get? c = some o) → Q none { s with heap := h', toks := tk }) : wpAny (model prog w) A (pyNext (.ref z)) Q E s := by
  have hTy : s.TypeIs (.ref z) "zip" := ⟨_, hz, rfl⟩
  unfold pyNext
  refine wpAny_bind (wpAny_attempt (wpAny_callSpecial?_slot (name := Str.ofString "__next__") hTy F.slot_zip_next
    (wpAny_call_entry F.slot_zip_next hTy F.entry_zip_next (next_end_held S D1 D2 hz hT hTI st1 st2 hle1 hle2 hend fun h' tk e hk he => ?_) (F.args_zip_next_1 _))))
  obtain ⟨o, ho, hc⟩ := he
  refine wpAny_bind (wpAny_isInstance (T := "StopIteration") (b := true) ⟨o, ho, hc⟩ isSubtype_stop ?_)
  exact wpAny_pure (hQ _ _ hk)
end
theorem zip_no_len : typeLookup (.type "zip") "__len__" = pure none := am_miss_of_fast (by decide +kernel)
theorem zip_no_hint : typeLookup (.type "zip") "__length_hint__" = pure none := am_miss_of_fast (by decide +kernel)

section
variable {X : Cx} {pins : List (Addr × Obj)} {σ : L2.St} {H : Hp} {s : Shared} {A : Around}
theorem kd_draws (I : Inv X pins σ H s) (hh : A.handled = none) {k : Kd} {xs : List V} (hq : k.has X.K H xs) {it : Addr} (hne : k.ap it) {tk : Tok} {i : Nat} (st : k.st tk it i s.heap) :
    ∃ (fp : List Addr) (P : Nat → Value → Prop) (St : Nat → Heap → Prop), Draws X.prog X.w A it fp xs.length P St ∧ St i s.heap ∧ (∀ j v, P j v → ∃ x, xs[j]? = some x ∧ RelV x v) ∧ (∀ j h, St j h → k.st tk it j h) ∧ it ∈ fp ∧ ∀ q ∈ fp, q = it ∨ ¬ k.ap q := by
  cases k with
  | l a =>
    obtain ⟨its, rv, p, _⟩ := I.list hq
    have e : its.toArray.size = xs.length := by rw [List.size_toArray]; exact rv.length.symm
    have D := Draws.list (prog := X.prog) (w := X.w) hh it a hne its.toArray
    rw [e] at D
    refine ⟨_, _, _, D, ⟨st, p.isList⟩, fun j v hv => vals_at rv (by simpa using hv), fun j h z => z.1, by simp, fun q hq => ?_⟩
    rcases List.mem_cons.mp hq with z | z
    · exact .inl z
    · exact .inr fun c => c (List.mem_singleton.mp z).symm
  | t a =>
    obtain ⟨its, rv, p, _⟩ := I.tuple hq
    have e : its.toArray.size = xs.length := by rw [List.size_toArray]; exact rv.length.symm
    have D := Draws.tuple (prog := X.prog) (w := X.w) hh it a hne its.toArray
    rw [e] at D
    refine ⟨_, _, _, D, ⟨st, p⟩, fun j v hv => vals_at rv (by simpa using hv), fun j h z => z.1, by simp, fun q hq => ?_⟩
    rcases List.mem_cons.mp hq with z | z
    · exact .inl z
    · exact .inr fun c => c (List.mem_singleton.mp z).symm
  | s z =>
    obtain rfl : xs = sgs z := hq
    have e : z.cps.size = (sgs z).length := by simp [sgs, cs]
    have D := Draws.text (prog := X.prog) (w := X.w) hh it z tk
    rw [e] at D
    refine ⟨_, _, _, D, st, fun j v hv => ?_, fun j h q => q, by simp, fun q hq => .inl (List.mem_singleton.mp hq)⟩
    obtain ⟨c, u, hc, rfl⟩ := hv
    refine ⟨.str ⟨#[c]⟩, ?_, u, rfl⟩
    show ((cs z).map _)[j]? = _
    rw [List.getElem?_map, show (cs z)[j]? = some c by rw [Array.getElem?_toList]; exact hc]
    rfl
theorem has_up {K : PySem.W.Frag} {G G' : Hp} (e : Ex G G') {k : Kd} {xs : List V} (h : k.has K G xs) : k.has K G' xs := by
  cases k with
  | l a => exact SqL.up e h
  | t a => exact SqT.up e h
  | s z => exact h
/-- what the zip knows of the tuple that it gave out -/
def ZO (h : Heap) (z TI TO : Addr) : Option Addr → Prop
  | none => IsZip h z TI TO .none ∧ ∃ x y, IsTupOf2 h TO x y
  | some T => ∃ f oT, IsZipHeld h z TI TO T f ∧ h.get? T = some oT
structure ZSt (k1 k2 : Kd) (tk1 tk2 : Tok) (z TI TO i1 i2 : Addr) (T0 : Option Addr) (i : Nat) (h : Heap) : Prop where
  zo : ZO h z TI TO T0
  to : ∃ o, h.get? TO = some o
  ti : IsTupOf2 h TI (.ref i1) (.ref i2)
  s1 : k1.st tk1 i1 i h
  s2 : k2.st tk2 i2 i h
theorem ZSt.keep {k1 k2 : Kd} {tk1 tk2 : Tok} {z TI TO i1 i2 : Addr} {T0 : Option Addr} {i : Nat} {h h' : Heap} (st : ZSt k1 k2 tk1 tk2 z TI TO i1 i2 T0 i h)
    (k : ∀ b, (b ∈ [z, TI, TO, i1, i2] ∨ T0 = some b) → ∀ o, h.get? b = some o → h'.get? b = some o) : ZSt k1 k2 tk1 tk2 z TI TO i1 i2 T0 i h' where
  zo := by
    have q := st.zo
    cases T0 with
    | none => exact ⟨k z (.inl (by simp)) _ q.1, q.2.imp fun x y => y.imp fun y p => k TO (.inl (by simp)) _ p⟩
    | some T =>
      obtain ⟨f, oT, h1, h2⟩ := q
      exact ⟨f, oT, k z (.inl (by simp)) _ h1, k T (.inr rfl) _ h2⟩
  to := st.to.imp fun o q => k TO (.inl (by simp)) _ q
  ti := k TI (.inl (by simp)) _ st.ti
  s1 := Kd.st_keep st.s1 fun o q => k i1 (.inl (by simp)) o q
  s2 := Kd.st_keep st.s2 fun o q => k i2 (.inl (by simp)) o q
theorem zs_item {E : Value → Shared → Prop} (hh : A.in1.handled = none) (I : Inv X pins σ H s) {k1 k2 : Kd} {xs ys : List V} (hqx : k1.has X.K H xs) (hqy : k2.has X.K H ys) {z TI TO i1 i2 : Addr} (D : Ap z TI TO i1 i2 k1 k2) {tk1 tk2 : Tok} {T0 : Option Addr}
    (hT0 : ∀ T, T0 = some T → T ∉ [z, TI, TO, i1, i2]) {i : Nat} (st : ZSt k1 k2 tk1 tk2 z TI TO i1 i2 T0 i s.heap) (hf : ∀ c ∈ [z, TI, TO, i1, i2], FpOk X pins H c) (hx : i < xs.length) (hy : i < ys.length) {Q : Option Value → Shared → Prop}
    (h : ∀ x y h' tk T1, xs[i]? = some x → ys[i]? = some y → Inv X pins σ (upd H s.heap.objs.size (.tup [x, y])) { s with heap := h', toks := tk } → T1 ∉ [z, TI, TO, i1, i2] → (T1 = s.heap.objs.size ∨ T0 = some T1) →
      ZSt k1 k2 tk1 tk2 z TI TO i1 i2 (some T1) (i + 1) h' → (∀ c ∈ [z, TI, TO, i1, i2], FpOk X pins (upd H s.heap.objs.size (.tup [x, y])) c) → (∀ c o, c ∉ [z, TI, TO, i1, i2] → s.heap.get? c = some o → h'.get? c = some o) → Q (some (.ref s.heap.objs.size)) { s with heap := h', toks := tk }) :
    wpAny (model X.prog X.w) A (pyNext (.ref z)) Q E s := by
  obtain ⟨hzo, ⟨oTO, hTOo⟩, hTI, h1, h2⟩ := st
  obtain ⟨fp1, P1, St1, D1, st1, g1, b1, m1, f1⟩ := kd_draws I hh hqx D.a1.2.2.1 h1
  obtain ⟨fp2, P2, St2, D2, st2, g2, b2, m2, f2⟩ := kd_draws I hh hqy D.a2.2.2.2 h2
  have S := D.sep m1 f1 m2 f2
  have lt : ∀ c ∈ [z, TI, TO, i1, i2], c ≠ TO → c < s.heap.objs.size := fun c hcm hTO => by
    have e' : c = z ∨ c = TI ∨ c = TO ∨ c = i1 ∨ c = i2 := by simpa using hcm
    rcases e' with q | q | q | q | q
    · rw [q]
      cases T0 with
      | none => exact Heap.lt_size hzo.1
      | some T => obtain ⟨_, _, e1, _⟩ := hzo; exact Heap.lt_size e1
    · rw [q]; exact Heap.lt_size hTI
    · exact absurd q hTO
    · rw [q]; obtain ⟨_, e1, _⟩ := Kd.st_obj h1; exact Heap.lt_size e1
    · rw [q]; obtain ⟨_, e2, _⟩ := Kd.st_obj h2; exact Heap.lt_size e2
  have fin : ∀ (u u2 : Value) (h' : Heap) (tk : Nat) (T1 : Addr), P1 i u → P2 i u2 → St1 (i + 1) h' → St2 (i + 1) h' → IsTupOf2 h' s.heap.objs.size u u2 → (∀ c o, c ∉ [z, TI, TO, i1, i2] → s.heap.get? c = some o → h'.get? c = some o) → IsTupOf2 h' TI (.ref i1) (.ref i2) → (∃ o, h'.get? TO = some o) →
      ZO h' z TI TO (some T1) → T1 ∉ [z, TI, TO, i1, i2] → (T1 = s.heap.objs.size ∨ T0 = some T1) → (∀ c ∈ [z, TI, TO, i1, i2], c ≠ s.heap.objs.size) → Q (some (.ref s.heap.objs.size)) { s with heap := h', toks := tk } := fun u u2 h' tk T1 p1 p2 s1' s2' hT hk ti to zo n1 n2 nc => by
    obtain ⟨x, hxx, ru⟩ := g1 _ _ p1
    obtain ⟨y, hyy, ru2⟩ := g2 _ _ p2
    have new : ObjOk X.prog X.w (upd H s.heap.objs.size (.tup [x, y])) h' s.heap.objs.size (.tup [x, y]) :=
      ⟨by show 2 ≤ sizeLine; decide, [u, u2], .cons ru (.cons ru2 .nil), ⟨_, hT, rfl, _, rfl⟩⟩
    have I1 : Inv X pins σ (upd H s.heap.objs.size (.tup [x, y])) { s with heap := h', toks := tk } :=
      I.turnedNew (t' := tk) (ch := [z, TI, TO, i1, i2]) hk hf (Nat.le_refl _) new
    exact h x y h' tk T1 hxx hyy I1 n1 n2 ⟨zo, to, ti, b1 _ _ s1', b2 _ _ s2'⟩ (fun c hc => ⟨by rw [upd_ne (nc c hc)]; exact (hf c hc).1, (hf c hc).2⟩) hk
  cases T0 with
  | none =>
    obtain ⟨hz, x0, y0, hTO⟩ := hzo
    have nc : ∀ c ∈ [z, TI, TO, i1, i2], c ≠ s.heap.objs.size := fun c hc => by
      by_cases e : c = TO
      · rw [e]; exact Nat.ne_of_lt (Heap.lt_size hTO)
      · exact Nat.ne_of_lt (lt c hc e)
    refine wpAny_pyNext_zipD2_item S D1 D2 hz hTI hTO st1 st2 hx hy fun u u2 h' tk p1 p2 z' TO' s1' s2' hT hsz hk => ?_
    exact fin u u2 h' tk s.heap.objs.size p1 p2 s1' s2' hT (fun c o hb q => hk c o (fun q' => hb (by simp [q'])) (fun q' => hb (by simp [q'])) (fun q' => hb (by simp [q'])) (fun q' => hb (by simp [q'])) q)
      (hk _ _ D.TIz D.TITO D.TIi1 D.TIi2 hTI) ⟨_, TO'⟩ ⟨false, _, z', hT⟩ (fun hc => nc _ hc rfl) (.inl rfl) nc
  | some T =>
    obtain ⟨f, oT, hz, hgT⟩ := hzo
    have nT := hT0 T rfl
    have nc : ∀ c ∈ [z, TI, TO, i1, i2], c ≠ s.heap.objs.size := fun c hc z => by
      have q := (hf c hc).1
      by_cases e : c = TO
      · exact Nat.lt_irrefl _ (z ▸ e ▸ Heap.lt_size hTOo)
      · exact Nat.lt_irrefl _ (z ▸ lt c hc e)
    refine pyNext_item_held S D1 D2 hz hgT hTI st1 st2 hx hy fun u u2 h' tk p1 p2 z' s1' s2' hT hsz hk => ?_
    exact fin u u2 h' tk T p1 p2 s1' s2' hT (fun c o hb q => hk c o (fun q' => hb (by simp [q'])) (fun q' => hb (by simp [q'])) (fun q' => hb (by simp [q'])) q)
      (hk _ _ D.TIz D.TIi1 D.TIi2 hTI) ⟨_, hk _ _ D.TOz D.TOi1 D.TOi2 hTOo⟩ ⟨true, oT, z', hk _ _ (fun q => nT (by simp [q])) (fun q => nT (by simp [q])) (fun q => nT (by simp [q])) hgT⟩ nT (.inr rfl) nc
theorem zs_done {E : Value → Shared → Prop} (hh : A.in1.handled = none) (I : Inv X pins σ H s) {k1 k2 : Kd} {xs ys : List V} (hqx : k1.has X.K H xs) (hqy : k2.has X.K H ys) {z TI TO i1 i2 : Addr} (D : Ap z TI TO i1 i2 k1 k2) {tk1 tk2 : Tok} {T0 : Option Addr}
    {i : Nat} (st : ZSt k1 k2 tk1 tk2 z TI TO i1 i2 T0 i s.heap) (hf : ∀ c ∈ [z, TI, TO, i1, i2], FpOk X pins H c) (hx : i ≤ xs.length) (hy : i ≤ ys.length) (he : i = xs.length ∨ i = ys.length) {Q : Option Value → Shared → Prop}
    (h : ∀ h' tk, Inv X pins σ H { s with heap := h', toks := tk } → Q none { s with heap := h', toks := tk }) : wpAny (model X.prog X.w) A (pyNext (.ref z)) Q E s := by
  obtain ⟨hzo, ⟨oTO, hTOo⟩, hTI, h1, h2⟩ := st
  obtain ⟨fp1, P1, St1, D1, st1, g1, b1, m1, f1⟩ := kd_draws I hh hqx D.a1.2.2.1 h1
  obtain ⟨fp2, P2, St2, D2, st2, g2, b2, m2, f2⟩ := kd_draws I hh hqy D.a2.2.2.2 h2
  have S := D.sep m1 f1 m2 f2
  have fin : ∀ h' tk, (∀ c o, c ∉ [z, TI, TO, i1, i2] → s.heap.get? c = some o → h'.get? c = some o) → Q none { s with heap := h', toks := tk } := fun h' tk hk =>
    h h' tk (I.turnedL (t' := tk) (ch := [z, TI, TO, i1, i2]) hk hf)
  cases T0 with
  | none =>
    obtain ⟨hz, x0, y0, hTO⟩ := hzo
    exact wpAny_pyNext_zipD2_end S D1 D2 hz hTI hTO st1 st2 hx hy he fun h' tk hk => fin h' tk fun c o hb q => hk c o (fun q' => hb (by simp [q'])) (fun q' => hb (by simp [q'])) (fun q' => hb (by simp [q'])) (fun q' => hb (by simp [q'])) q
  | some T =>
    obtain ⟨f, oT, hz, hgT⟩ := hzo
    exact pyNext_end_held S D1 D2 hz hgT hTI st1 st2 hx hy he fun h' tk hk => fin h' tk fun c o hb q => hk c o (fun q' => hb (by simp [q'])) (fun q' => hb (by simp [q'])) (fun q' => hb (by simp [q'])) q
/-- a pair of things, by value -/
def PqV (H : Hp) (v : V) (q : V × V) : Prop := ∃ t, v = .ref t ∧ H t = some (.tup [q.1, q.2])
instance : Imm PqV := ⟨fun t h => h.imp fun p z => ⟨z.1, t _ _ z.2⟩⟩
theorem zip_take {α β : Type} {xs : List α} {ys : List β} {i : Nat} {x : α} {y : β} (h1 : xs[i]? = some x) (h2 : ys[i]? = some y) : (xs.zip ys).take (i + 1) = (xs.zip ys).take i ++ [(x, y)] := by
  rw [List.take_add_one, (List.getElem?_zip_eq_some (z := (x, y))).mpr ⟨h1, h2⟩]
  rfl
theorem zl_loop {R : Result → Shared → Prop} {H1 : Hp} {k1 k2 : Kd} {xs ys : List V} (hx1 : k1.has X.K H1 xs) (hy1 : k2.has X.K H1 ys) {z TI TO i1 i2 : Addr} (D : Ap z TI TO i1 i2 k1 k2) {tk1 tk2 : Tok} {S : Addr} (hS1 : H1 S = none) (hSn : S ∉ [z, TI, TO, i1, i2]) (hh : A.in1.in1.handled = none)
    (hz : xs.length ≤ sizeLine) (hz2 : ys.length ≤ sizeLine) (res : Value) (hR : ∀ H' s' acc, Inv X pins σ H' s' → Ex H1 H' → H' S = some (.lst acc) → P2 (PqV H') acc (xs.zip ys) → R (.ok (.ret res)) s') :
    ∀ (k i : Nat) (s : Shared) (H : Hp) (acc : List V) (T0 : Option Addr), min xs.length ys.length - i = k → i ≤ min xs.length ys.length → Inv X pins σ H s → Ex H1 H → H S = some (.lst acc) → P2 (PqV H) acc ((xs.zip ys).take i) → (∀ T, T0 = some T → T ∉ [z, TI, TO, i1, i2] ∧ T ≠ S) →
      ZSt k1 k2 tk1 tk2 z TI TO i1 i2 T0 i s.heap → (∀ c ∈ [z, TI, TO, i1, i2], FpOk X pins H c) → codeAny (model X.prog X.w) A (.builtin "list.extend.loop" ⟨[.ref S, .ref z, res], []⟩) R s := by
  intro k
  induction k with
  | zero =>
    intro i s H acc T0 hk hi I e hS hP hT0 st hf
    refine codeAny_builtin PySem.F.entry_extend_loop ?_
    rw [Around.under_plainId PySem.F.plain_extend_loop _]
    show wpAny _ A.in1 (pyNext (.ref z) >>= _) _ _ _
    refine wpAny_bind (zs_done (A := A.in1) hh I (has_up e hx1) (has_up e hy1) D st hf (by omega) (by omega) (by omega) fun h' tk I' => ?_)
    refine wpAny_pure (hR _ _ acc I' e hS ?_)
    rw [List.take_of_length_le (by rw [List.length_zip]; omega)] at hP
    exact hP
  | succ k ih =>
    intro i s H acc T0 hk hi I e hS hP hT0 st hf
    have al := hP.len
    rw [List.length_take, List.length_zip] at al
    refine codeAny_builtin PySem.F.entry_extend_loop ?_
    rw [Around.under_plainId PySem.F.plain_extend_loop _]
    show wpAny _ A.in1 (pyNext (.ref z) >>= _) _ _ _
    refine wpAny_bind (zs_item (A := A.in1) hh I (has_up e hx1) (has_up e hy1) D (fun T h => (hT0 T h).1) st hf (by omega) (by omega) fun x y h' tk T1 hx hy I1 n1 n2 st' hf' hk' => ?_)
    have hSs : S ≠ s.heap.objs.size := fun q => by
      have z := I.fresh
      rw [← q, hS] at z
      cases z
    have hS2 : (upd H s.heap.objs.size (.tup [x, y])) S = some (.lst acc) := by rw [upd_ne hSs]; exact hS
    obtain ⟨z1, its, n, r, hl, eS⟩ := I1.lstM hS2
    have T1S : T1 ≠ S := by
      rcases n2 with q | q
      · rw [q]; exact Ne.symm hSs
      · exact (hT0 T1 q).2
    show wpAny _ A.in1 (updateSeq S (·.push (Value.ref s.heap.objs.size)) >>= _) _ _ { s with heap := h', toks := tk }
    refine wpAny_bind ?_
    have I2 := I1.lset (ys := acc ++ [.ref s.heap.objs.size]) (its' := its ++ [.ref s.heap.objs.size]) (f := fun a => a.push (Value.ref s.heap.objs.size)) (t' := tk) hS2 eS (by simp) (r.append (.cons (show L2.RelV (V.ref s.heap.objs.size) (Value.ref s.heap.objs.size) from rfl) .nil)) (by rw [List.length_append, List.length_singleton]; omega)
    refine wpAny_updateSeq eS rfl (wpAny_pure ⟨plainId_quiet PySem.F.plain_extend_loop _, ih (i + 1) _ _ (acc ++ [.ref s.heap.objs.size]) (some T1) (by omega) (by omega) I2 ?_ upd_same ?_ ?_ ?_ ?_⟩) ?_ ?_
    · exact Same.mut (e.trans (Same.new (Same.refl H) I.fresh)) hS1
    · rw [zip_take hx hy]
      have tn : Tk H (upd H s.heap.objs.size (.tup [x, y])) := .ex (Same.new (Same.refl H) I.fresh)
      have tp := Tk.put (o := .lst (acc ++ [.ref s.heap.objs.size])) hS2
      exact (p2_imm (tn.trans tp) hP).snoc (imm tp ⟨_, rfl, upd_same⟩)
    · intro T hT
      cases hT
      exact ⟨n1, T1S⟩
    · refine st'.keep fun b hb o q => (Heap.get?_update_other _ _ ?_).trans q
      rcases hb with hb | hb
      · exact fun q0 => hSn (by rw [q0]; exact hb)
      · cases hb
        exact Ne.symm T1S
    · intro c hc
      exact ⟨by rw [upd_ne fun q0 => hSn (by rw [← q0]; exact hc)]; exact (hf' c hc).1, (hf' c hc).2⟩
    · rw [List.size_toArray]
      omega
    · show (its.toArray.push _).size ≤ sizeLine + 1
      rw [Array.size_push, List.size_toArray]
      omega
def tListZip (K : PySem.W.Frag) (ta : TA) : TE := fun σ H Q => ta σ H fun vs H1 => ∃ (k1 k2 : Kd) (xs ys : List V), vs = [k1.v, k2.v] ∧ k1.has K H1 xs ∧ k2.has K H1 ys ∧ xs.length ≤ sizeLine ∧ ys.length ≤ sizeLine ∧
  ∀ p H' acc, Ex H1 H' → H1 p = none → H' p = some (.lst acc) → P2 (PqV H') acc (xs.zip ys) → Q (.ref p) H'
theorem pe_listZip {e e2 : Expr} {ta : TA} {p p2 pos pos2 : Pos} (hc : X.calm = true) (hg : Gl X "list") (hm : X.mg "list" = none) (hgz : Gl X "zip") (hmz : X.mg "zip" = none) (ha : PA X [e, e2] ta)
    (hs : starEach [.Call (.Name "zip" p2) [e, e2] [] pos2] X.env = (false, eval (.Call (.Name "zip" p2) [e, e2] [] pos2) X.env) :: starEach [] X.env := by rfl)
    (hs2 : starEach [e, e2] X.env = (false, eval e X.env) :: starEach [e2] X.env := by rfl) (hpl : (backTo pos2 (starEach [e2] X.env)).any (·.1) = false := by rfl) :
    PE X (.Call (.Name "list" p) [.Call (.Name "zip" p2) [e, e2] [] pos2] [] pos) (tListZip X.K ta) := by
  refine ⟨fun pins s σ H Q I h => ?_⟩
  refine wpAny_Call_Name_kw (ld_blt I hg hm boot_list ?_)
  refine PyProof.Rows.callWith_type1 ?_ hs rfl
  rw [hs]
  show wpAny _ _ (spliced ((false, eval (.Call (.Name "zip" p2) [e, e2] [] pos2) X.env) :: backTo pos (starEach [] X.env))) _ _ s
  refine Calls.spliced_cons ?_
  refine Call_ (ld_blt I hgz hmz PyProof.Rows.boot_zip (PyProof.Rows.callWith_type1 (thn (ha.run pos2 pins s σ H _ I h) fun us s1 ⟨vs, H1, I1, r1, q1⟩ => ?_) hs2 hpl))
  obtain ⟨k1, k2, xs, ys, ex, hx, hy, lx, ly, q⟩ := q1
  subst ex
  cases r1 with
  | cons r rr =>
    cases rr with
    | cons r' rr =>
      cases rr
      obtain ⟨o1, HH1, tk1, B1, g1, st1, ap1⟩ := Kd.begins I1 hx r
      obtain ⟨o2, HH2, tk2, B2, g2, st2, ap2⟩ := Kd.begins I1 hy r'
      refine zip_begins2 B1 B2 g1 g2 fun h' hz hTI hTO h1 h2 hsz hk => ?_
      have I2 : Inv X pins σ H1 { s1 with heap := h' } := I1.kept (t' := s1.toks) hk
      have fresh5 : ∀ c, c ∈ [s1.heap.objs.size + 4, s1.heap.objs.size + 2, s1.heap.objs.size + 3, s1.heap.objs.size, s1.heap.objs.size + 1] → FpOk X pins H1 c := fun c hcm => by
        have hle : s1.heap.objs.size ≤ c := by
          have e' : c = s1.heap.objs.size + 4 ∨ c = s1.heap.objs.size + 2 ∨ c = s1.heap.objs.size + 3 ∨ c = s1.heap.objs.size ∨ c = s1.heap.objs.size + 1 := by simpa using hcm
          omega
        exact I1.fpOk hle (I1.hok.fresh hle)
      have ap : Ap (s1.heap.objs.size + 4) (s1.heap.objs.size + 2) (s1.heap.objs.size + 3) s1.heap.objs.size (s1.heap.objs.size + 1) k1 k2 :=
        ⟨ne_nat (by omega), ne_nat (by omega), ne_nat (by omega), ne_nat (by omega), ne_nat (by omega), ne_nat (by omega), ne_nat (by omega), ne_nat (by omega), ne_nat (by omega), ne_nat (by omega), ⟨ap1 _ (by omega), ap1 _ (by omega), ap1 _ (by omega), ap1 _ (by omega)⟩, ⟨ap2 _ (by omega), ap2 _ (by omega), ap2 _ (by omega), ap2 _ (by omega)⟩⟩
      have zst : ZSt k1 k2 tk1 tk2 (s1.heap.objs.size + 4) (s1.heap.objs.size + 2) (s1.heap.objs.size + 3) s1.heap.objs.size (s1.heap.objs.size + 1) none 0 h' := ⟨⟨hz, _, _, hTO⟩, ⟨_, hTO⟩, hTI, st1 _ _ h1, st2 _ _ h2⟩
      have lt : ∀ c, c ∈ [s1.heap.objs.size + 4, s1.heap.objs.size + 2, s1.heap.objs.size + 3, s1.heap.objs.size, s1.heap.objs.size + 1] → c < h'.objs.size := fun c hcm => by
        have e' : c = s1.heap.objs.size + 4 ∨ c = s1.heap.objs.size + 2 ∨ c = s1.heap.objs.size + 3 ∨ c = s1.heap.objs.size ∨ c = s1.heap.objs.size + 1 := by simpa using hcm
        have hzl := Heap.lt_size hz
        omega
      generalize hzz : s1.heap.objs.size + 4 = z at *
      generalize s1.heap.objs.size + 2 = TI at *
      generalize s1.heap.objs.size + 3 = TO at *
      generalize s1.heap.objs.size + 1 = i2 at *
      generalize hi1 : s1.heap.objs.size = i1 at *
      refine Calls.spliced_nil ?_
      refine callType_codes (Q₁ := fun obj s₁ => obj = .ref h'.objs.size ∧ s₁ = { s1 with heap := h'.push { cls := .type "list", data := .seq #[] } }) PySem.F.called_list (PySem.F.typeCall_list_1 _) PySem.F.entry_list_init
        (code_list_new _ ⟨rfl, rfl⟩) fun obj s₁ h₁ => ?_
      obtain ⟨rfl, rfl⟩ := h₁
      have hSn : H1 h'.objs.size = none := I2.hok.fresh (Nat.le_refl _)
      have I3 := I2.lnew (ys := []) (its := []) (t' := s1.toks) .nil (Nat.zero_le _)
      have hS : (h'.push { cls := .type "list", data := .seq #[] }).get? h'.objs.size = some { cls := .type "list", data := .seq ([] : List Value).toArray } := Heap.get?_push_size _ rfl
      have sn : h'.objs.size ∉ [z, TI, TO, i1, i2] := fun hcm => Nat.lt_irrefl _ (lt _ hcm)
      refine ⟨⟨_, hS, rfl⟩, PySem.F.args_list_init_2 _ _, ?_⟩
      show wpAny _ X.A.in1.in1 (do let old ← Builtin.List.listItems (.ref h'.objs.size); Builtin.List.listUpdate (.ref h'.objs.size) (fun _ => #[]); letGo old.toList.reverse; Builtin.List.listExtendWith (.ref h'.objs.size) (.ref z) .none) _ _ _
      refine wpAny_bind ?_
      unfold Builtin.List.listItems
      refine wpAny_bind (wpAny_seqItems hS rfl (wpAny_pure ?_))
      show wpAny _ X.A.in1.in1 (updateSeq h'.objs.size (fun _ => #[]) >>= fun _ => letGo (#[] : Array Value).toList.reverse >>= fun _ => Builtin.List.listExtendWith (.ref h'.objs.size) (.ref z) .none) _ _ _
      refine wpAny_bind (wpAny_updateSeq hS rfl ?_)
      have I4 := I3.lset (l := h'.objs.size) (xs := []) (ys := []) (its := []) (its' := []) (f := fun _ => #[]) (t' := s1.toks) upd_same hS rfl .nil (Nat.zero_le _)
      have hS2 := Heap.get?_update_self (Obj.mapSeq (fun _ => (#[] : Array Value))) hS rfl
      refine wpAny_bind (wpAny_letGo ?_)
      unfold Builtin.List.listExtendWith
      have up : ∀ (hh : Heap) (f : Obj → Obj), (∀ b o, b ≠ h'.objs.size → h'.get? b = some o → hh.get? b = some o) → ∀ b o, b ≠ h'.objs.size → h'.get? b = some o → (hh.update h'.objs.size f).get? b = some o := fun hh f q b o n e =>
        (Heap.get?_update_other _ _ (Ne.symm n)).trans (q b o n e)
      have u1 : ∀ b o, b ≠ h'.objs.size → h'.get? b = some o → (h'.push { cls := .type "list", data := .seq #[] }).get? b = some o := fun b o _ e => Heap.get?_push_of_some _ e
      have u2 := up _ (Obj.mapSeq (fun _ => (#[] : Array Value))) u1
      have zS : z ≠ h'.objs.size := Nat.ne_of_lt (Heap.lt_size hz)
      have hz2 := u2 _ _ zS hz
      refine wpAny_bind (wpAny_typeOf (T := "zip") ⟨_, hz2, rfl⟩ ?_)
      have b1 : Builtin.List.listSameRef (.ref h'.objs.size) (.ref z) = false := by simp [Builtin.List.listSameRef, Ne.symm zS]
      have b2 : (Value.type "zip" == Value.type "list") = false := by decide
      have b3 : (Value.type "zip" == Value.type "tuple") = false := by decide
      simp only [b1, b2, b3, Bool.or_false, Bool.false_eq_true, if_false]
      refine wpAny_bind (wpAny_pyIter_zip hz2 ?_)
      refine wpAny_bind (wpAny_holding ?_)
      unfold Builtin.List.listLengthHint
      refine wpAny_bind (wpAny_specialOf (T := "zip") ⟨_, hz2, rfl⟩ zip_no_len ?_)
      show wpAny _ X.A.in1.in1 (specialOf (Value.ref z) (Str.ofString "__length_hint__") >>= _) _ _ _
      refine wpAny_bind (wpAny_specialOf (T := "zip") ⟨_, hz2, rfl⟩ zip_no_hint ?_)
      refine wpAny_pure ?_
      show wpAny _ X.A.in1.in1 (rule "list.extend.makes-room" >>= fun _ => Builtin.List.listTouch (.ref h'.objs.size) >>= fun _ =>
        again (.builtin "list.extend.loop" ⟨[.ref h'.objs.size, .ref z, .none], []⟩)) _ _ _
      refine wpAny_bind (wpAny_rule ?_)
      refine wpAny_bind ?_
      show wpAny _ X.A.in1.in1 (updateSeq h'.objs.size (·.push .none) >>= fun _ => updateSeq h'.objs.size (·.pop)) _ _ _
      refine wpAny_bind (wpAny_updateSeq hS2 rfl ?_)
      have I5 := I4.lset (l := h'.objs.size) (xs := []) (ys := [.non]) (its := []) (its' := [.none]) (f := (·.push .none)) (t' := s1.toks) upd_same hS2 rfl (.cons rfl .nil) (by decide)
      have hS3 := Heap.get?_update_self (Obj.mapSeq (·.push Value.none)) hS2 rfl
      refine wpAny_updateSeq (hz := by seq_fits) hS3 rfl ?_
      have I6 := I5.lset (l := h'.objs.size) (xs := [.non]) (ys := []) (its := [.none]) (its' := []) (f := (·.pop)) (t' := s1.toks) upd_same hS3 rfl .nil (Nat.zero_le _)
      have u4 := up _ (Obj.mapSeq (·.pop)) (up _ (Obj.mapSeq (·.push Value.none)) u2)
      refine wpAny_pure ⟨plainId_quiet PySem.F.plain_extend_loop _, ?_⟩
      have eH : Ex H1 (upd (upd (upd (upd H1 h'.objs.size (.lst [])) h'.objs.size (.lst [])) h'.objs.size (.lst [.non])) h'.objs.size (.lst [])) :=
        Same.mut (Same.mut (Same.mut (Same.new (Same.refl H1) hSn) hSn) hSn) hSn
      refine zl_loop (X := X) (pins := pins) (σ := σ) (A := X.A.in1) (H1 := H1) hx hy ap hSn sn (I.ok.hd hc) lx ly .none (fun H' s' acc I' e' hS' hP => ⟨rfl, .ref _, H', I', rfl, q _ H' acc e' hSn hS' hP⟩)
        _ 0 _ _ [] none rfl (Nat.zero_le _) I6 eH upd_same .nil (fun T h => by cases h) (zst.keep fun b hb o q => u4 b o (fun z => ?_) q) (fun c hcm => ?_)
      · rcases hb with hb | hb
        · exact sn (z ▸ hb)
        · cases hb
      · have n : c ≠ h'.objs.size := Nat.ne_of_lt (lt c hcm)
        refine ⟨?_, (fresh5 c hcm).2⟩
        rw [upd_ne n, upd_ne n, upd_ne n, upd_ne n]
        exact (fresh5 c hcm).1
end
end Zl

/-! a rule of our own: xs[a:c] = ys -/
namespace Dk
open PySem PySem.Spec PyProof.Rows L2 PySem.SeqAt PySem.W
def gSli (to : TE) (tl th : TO) : TG := fun v σ H Q => to σ H fun o H1 => tl σ H1 fun lo H2 => th σ H2 fun hi H3 => ∃ (l b : Addr) (xs ys : List V) (a c : Int), o = .ref l ∧ v = .ref b ∧ lo = some a ∧ hi = some c ∧
  H3 l = some (.lst xs) ∧ H3 b = some (.lst ys) ∧ l ≠ b ∧ 0 ≤ a ∧ a ≤ c ∧ c ≤ xs.length ∧ xs.length + ys.length ≤ sizeLine ∧ Q σ (upd H3 l (.lst (xs.take a.toNat ++ ys ++ xs.drop c.toNat)))
theorem pg_sli {X : Cx} {o : Expr} {lo hi : Option Expr} {to : TE} {tl th : TO} {pos p2 : Pos} (ho : PE X o to) (hl : PO X lo tl) (hu : PO X hi th)
    (ha : ∀ v, assign (.Subscript o (.Slice lo hi none p2) pos) X.env v = (do
      let ov ← holding [v] (eval o X.env)
      let iv ← holding [v, ov] (eval (.Slice lo hi none p2) X.env)
      standAt pos
      holding [v, ov, iv] (setItem ov iv v)
      release [iv, v, ov] []) := by intro _; rfl) : PG X (.Subscript o (.Slice lo hi none p2) pos) (gSli to tl th) := by
  refine ⟨fun pins s σ H v u Q I r h => ?_⟩
  rw [ha]
  refine wpAny_bind (wpAny_holding (thn (ho.run pins s σ H _ I h) fun ov s1 ⟨x, H1, I1, r1, q1⟩ => ?_))
  refine wpAny_bind (wpAny_holding (wpAny_Slice (thn (hl.run pins s1 σ H1 _ I1 q1) fun vl s2 ⟨l, H2, I2, pl, q2⟩ => thn (hu.run pins s2 σ H2 _ I2 q2) fun vu s3 ⟨w, H3, I3, pu, q3⟩ => ?_)))
  rw [evalPart_none]
  refine wpAny_pure ?_
  have I4 : Inv X pins σ H3 { s3 with heap := s3.heap.push { cls := .type "slice", data := .fields #[vl, vu, .none] } } := I3.kept (t' := s3.toks) fun b ob q => Heap.get?_push_of_some _ q
  obtain ⟨la, lb, xs, ys, a, c, rfl, rfl, rfl, rfl, h1, h2, h3, h4, h5, h6, h7, q⟩ := q3
  cases r1
  cases r
  have ra : RelV (.int a) vl := by
    cases pl with
    | int _ t => exact ⟨t, rfl⟩
  have rc : RelV (.int c) vu := by
    cases pu with
    | int _ t => exact ⟨t, rfl⟩
  refine wpAny_bind (wpAny_standAt (wpAny_bind (wpAny_holding ?_)))
  refine set_slice (s := { s3 with heap := s3.heap.push { cls := .type "slice", data := .fields #[vl, vu, .none] } }) (sl := s3.heap.objs.size) I4 h1 h2 h3 (Heap.IsSliceOf.new ..) ra rc h4 h5 h6 h7 fun s' I' => ?_
  exact wpAny_release ⟨σ, _, I', q⟩
theorem r_gsli {v : V} {σ : L2.St} {H : Hp} {Q : L2.St → Hp → Prop} {to : TE} {tl th : TO} (h : to σ H fun o H1 => tl σ H1 fun lo H2 => th σ H2 fun hi H3 => ∃ (l b : Addr) (xs ys : List V) (a c : Int), o = .ref l ∧ v = .ref b ∧ lo = some a ∧ hi = some c ∧
  H3 l = some (.lst xs) ∧ H3 b = some (.lst ys) ∧ l ≠ b ∧ 0 ≤ a ∧ a ≤ c ∧ c ≤ xs.length ∧ xs.length + ys.length ≤ sizeLine ∧ Q σ (upd H3 l (.lst (xs.take a.toNat ++ ys ++ xs.drop c.toNat)))) : gSli to tl th v σ H Q := h
end Dk

/-! isinstance of a caught error that has fields -/
namespace Dk
open PySem PySem.Spec PyProof.Rows L2
def rIsED (K : PySem.W.Frag) (D a : Addr) (cls : Value) (d : Option Addr) : List V → Hp → VK → Prop := fun xs H Q => cls = .ref D ∧ ∃ (dd : Addr) (fs : List (Str × V)) (c : V) (cv : Value) (b : Bool), d = some dd ∧ H dd = some (.xd fs) ∧ xs = [.ref a, c] ∧ (∀ u, RelV c u → u = cv) ∧ PySem.W.kitOne K (.ref D) cv = some b ∧ Q (.bl b) H
theorem call_isED {X : Cx} {a D : Addr} {oe : Obj} {cls : Value} {d : Option Addr} {pn : List (Addr × Obj)} (C : ExcC X.K D) (hz : Zc cls d oe) (hf : ∃ vs, oe.data = .fields vs) : CallR (X.suite a ((a, oe) :: pn)) (.builtin "isinstance") (rIsED X.K D a cls d) := by
  intro pins s σ H xs us Q I r h
  obtain ⟨ec, dd, fs, c, cv, b, ed, ea, rfl, hcv, e, q⟩ := h
  subst ec ed
  cases r with
  | cons rx rr =>
    cases rr with
    | cons rt rr =>
      cases rr
      cases rx
      have ec := hcv _ rt
      subst ec
      obtain ⟨hget, _⟩ := I.pin (a, oe) (List.mem_append_left _ List.mem_cons_self)
      obtain ⟨vs, hd⟩ := hf
      have hx : ObjOk X.prog X.w H s.heap dd (.xd fs) := I.hok dd _ ea
      obtain ⟨mA, hns, hr⟩ := hx
      obtain ⟨od, ho, hl⟩ := lookIn_ns hns
      have J : PySem.W.InstAt s.heap a oe D (some od) := ⟨hget, hz.1, by unfold PySem.W.notCls; rw [hd] <;> rfl, by rw [hz.2]; exact ho⟩
      have hcl : (PySem.W.clsIn X.K D).isSome = true := by
        obtain ⟨cdD, hcD, _⟩ := PySem.W.any_some C.hd
        rw [hcD]; rfl
      exact PySem.W.kia_one (PySem.W.kitx_exc hcl C.hg C.hk C.hs C.ha C.hn C.ht C.hm) I.kIn J e (fun z => nomatch z) fun tk => ⟨.bl b, H, I.kept (t' := tk) fun _ _ z => z, rfl, q⟩
theorem r_isED {K : PySem.W.Frag} {D a dd : Addr} {cls : Value} {d : Option Addr} {fs : List (Str × V)} {c : V} {cv : Value} {b : Bool} {H : Hp} {Q : VK} (h1 : cls = .ref D) (h2 : d = some dd) (h3 : H dd = some (.xd fs)) (h4 : ∀ u, RelV c u → u = cv) (h5 : PySem.W.kitOne K (.ref D) cv = some b) (q : Q (.bl b) H) : rIsED K D a cls d [.ref a, c] H Q :=
  ⟨h1, dd, fs, c, cv, b, h2, h3, rfl, h4, h5, q⟩
end Dk

/-! more rules: keywords inside a try, dicts, locks, a few methods -/
namespace Dk
open PySem PySem.Spec PyProof.Rows L2 LiI StX
section
variable {X : Cx} {CX : CXT} {k : Nat} {f : Addr} {fd : FuncData} {ps ks : List Str} {sp : Sp} {E : L2.St → XK} {x : Str} {p pos : Pos} {kws : List Keyword} {tk : TA} {g : List Value → List Value → List Value} {gV : List V → List V → List V}
def tCallKS (sp : Sp) (gV : List V → List V → List V) (E : L2.St → XK) (tk : TA) : TE := fun σ H Q => tk σ H fun zs H2 => sp (gV [] zs) H2 Q (E σ)
theorem pe_callKS (F : FnOk X.prog X.w X.K X.mg X.base CX k f fd ps sp) (hr : Room k X.A) (hg : Gl X x) (hm : X.mg x = some (.ref f)) (hk : PySem.W.keepIn X.K (.ref f) = true) (hb : KBinds X.K fd ps ks g gV) (hx : ∀ σ, PassesAt CX X σ (E σ))
    (hkw : PK X kws tk) (hall : (backToKw pos (keywordEach kws X.env)).all (·.1.isSome) = true := by rfl) (hks : (backToKw pos (keywordEach kws X.env)).filterMap (·.1) = ks := by rfl)
    (hdb : (x == ("__debug__" : Str)) = false := by decide)
    (hpl : ((backTo pos (starEach [] X.env)).any (·.1) || (backToKw pos (keywordEach kws X.env)).any (·.1.isNone)) = false := by rfl) :
    PE X (.Call (.Name x p) [] kws pos) (tCallKS sp gV E tk) := by
  refine ⟨fun pins s σ H Q I h => ?_⟩
  refine wpAny_Call_Name_kw (ld_glob I hg hm ?_ hdb)
  refine PySem.W.callWith_KW0 (h₀ := X.base) I.ok.mod.kin hk hall (thn (hkw.run pos pins s σ H _ I h) fun ws s2 ⟨zs, H2, I2, rz, q2⟩ => ⟨I2.kIn, ?_⟩) hpl
  rw [hks]
  have r2 := hb.rel (us := []) (vs := []) .nil rz
  have hl : (g [] ws).length = ps.length := by rw [← r2.length]; exact F.len _ _ _ _ q2
  refine wpAny_call (codeAny_mono (F.run X.A X.stack s2 H2 ⟨[], ks.zip ws⟩ (g [] ws) (gV [] zs) Q (E σ) hr I2.env0 (hb.to s2 [] ws I2.kIn hl) r2 q2) fun r s' hq => ?_)
  cases r with
  | error e => exact hx σ pins H2 s2 e s' I2 hq
  | ok fl =>
    cases fl with
    | ret u => exact I2.after hq
    | next => exact False.elim hq
    | brk => exact False.elim hq
    | cont => exact False.elim hq
theorem r_callKS {σ : L2.St} {H : Hp} {Q : VK} (h : tk σ H fun zs H2 => sp (gV [] zs) H2 Q (E σ)) : tCallKS sp gV E tk σ H Q := h
end
section
variable {K : PySem.W.Frag} {td ty te to : TE} {σ : L2.St} {H : Hp} {Q : VK} {v x y : V} {D : Ends}
theorem r_chain {r r' : R2} {ta tb tc : TE} (h : ta σ H fun x H1 => tb σ H1 fun y H2 => r x y H2 fun z H3 => ∃ k, z = .bl k ∧ (if k = true then tc σ H3 fun w' H4 => r' y w' H4 Q else Q (.bl false) H3)) : tChain r r' ta tb tc σ H Q := h
theorem r_dget (h : td σ H fun x H1 => ty σ H1 fun y H2 => ∃ a v, x = .ref a ∧ DGet H2 a y (some v) ∧ Q v H2) : tDGet td ty σ H Q := h
theorem r_din (h : ty σ H fun y H1 => td σ H1 fun x H2 => ∃ a o, x = .ref a ∧ DGet H2 a y o ∧ Q (.bl o.isSome) H2) : tDIn ty td σ H Q := h
theorem r_dnotin (h : ty σ H fun y H1 => td σ H1 fun x H2 => ∃ a o, x = .ref a ∧ DGet H2 a y o ∧ Q (.bl (!o.isSome)) H2) : tDNotIn ty td σ H Q := h
theorem r_lock {t : TS} (h : ∃ d u, H d = some u ∧ Mut (some u) ∧ ∀ od, t ⟨fun σ' H' => H' d = some (.frz od u) ∧ D.nx σ' (upd H' d u), fun v H' => H' d = some (.frz od u) ∧ D.rt v (upd H' d u), fun σ' H' => H' d = some (.frz od u) ∧ D.bk σ' (upd H' d u), fun σ' H' => H' d = some (.frz od u) ∧ D.ct σ' (upd H' d u)⟩ σ (upd H d (.frz od u))) : tLock t D σ H := h
theorem r_items (h : te σ H fun x H1 => rItemsL x H1 Q) : tListItems te σ H Q := h
theorem r_bits (h : to σ H fun x H1 => ∃ i, x = .int i ∧ Q (.int (Builtin.Int.intBits i : Nat)) H1) : tBits to σ H Q := h
theorem r_starC {t : TA} {QA : List V → Hp → Prop} (h : te σ H fun x H1 => ∃ p xs, x = V.ref p ∧ (SqT K H1 p xs ∨ SqL K H1 p xs) ∧ t σ H1 fun ys H2 => QA (xs ++ ys) H2) : tStar K te t σ H QA := h
theorem r_forKo {g : TG} {tb : TS} (h : td σ H fun x H1 => ∃ d o, x = .ref d ∧ ((∃ kvs, H1 d = some (.frz o (.dK kvs)) ∧ LoopW (Itk d o kvs) g tb D σ H1) ∨ ∃ kvs, H1 d = some (.frz o (.dT kvs)) ∧ LoopW (Itkt d o kvs) g tb D σ H1)) : tFor (iKeys td) g tb D σ H := h
end
/-- l.index(x, k) -/
def rIndexD3 (K : PySem.W.Frag) : V → List V → Hp → VK → Prop := fun x xs H Q => ∃ (a : Addr) (y : V) (d : PyData) (ds : List PyData) (j : Nat) (z : PyData) (k : Int), x = V.ref a ∧ xs = [y, .int k] ∧ Dp K H (V.ref a) (.list ds) ∧ Dp K H y d ∧
  SeqAt.shaped (.list ds) = true ∧ SeqAt.shaped d = true ∧ ds[j]? = some z ∧ PyData.eqv z d = true ∧ 0 ≤ k ∧ k ≤ (j : Int) ∧ (∀ (m : Nat) (z' : PyData), k ≤ (m : Int) → m < j → ds[m]? = some z' → PyData.eqv z' d = false) ∧ Q (.int (j : Nat)) H
theorem mt_indexD3 {X : Cx} (hu : X.A.units + 65 < cLine) : MtR X "list.index" (rIndexD3 X.K) := by
  intro pins s σ H x xs v us Q I rx rxs h
  obtain ⟨a, y, d, ds, j, z, k, rfl, rfl, hl, hy, sl, sd, hz, hzj, k0, kj, hno, q⟩ := h
  cases rx
  cases rxs with
  | cons ry rt =>
    rename_i uy ut
    cases rt with
    | cons rk rt =>
    rename_i uk ut
    cases rt
    obtain ⟨tk, rfl⟩ := rk
    obtain ⟨bs, r1⟩ := Dp.reads I d y uy hy ry
    have hxs : PyData.canLayAll0 ds = true := SeqAt.canLay_of_shaped sl
    have hroom : X.A.units + 1 + min (PyData.depthAll ds) d.depth < cLine := room_in_shaped sd hu
    cases hl with
    | lst hs ha =>
      obtain ⟨its, rv, ⟨⟨cls, dd, data, sls⟩, n, ho, hc, hdn, hdt⟩, hlen⟩ := I.list hs
      simp only at hc hdt
      subst hc hdt
      obtain ⟨as, h4⟩ := Dp.readsAll I ds _ its ha rv
      have hn : its.length = ds.length := SeqAt.ReadsAll.length ds its as h4
      have hmap : its.map (SeqAt.readOf s.heap) = ds := SeqAt.readsAll_map ds its as hxs h4
      have hvl := rv.length
      have hsl := sizeLine_eq
      obtain ⟨hjd, _⟩ := List.getElem?_eq_some_iff.mp hz
      have hjl : j < its.length := by omega
      have hj : j < its.toArray.size := by simpa using hjl
      have at_ : ∀ (m : Nat) (hm : m < its.toArray.size) (z' : PyData), ds[m]? = some z' → SeqAt.readOf s.heap its.toArray[m] = z' := by
        intro m hm z' hz'
        have hml : m < its.length := by simpa using hm
        rw [← hmap, List.getElem?_map, List.getElem?_eq_getElem hml] at hz'
        have e1 : SeqAt.readOf s.heap its[m] = z' := Option.some.inj (show some (SeqAt.readOf s.heap its[m]) = some z' from hz')
        simpa using e1
      have sf : SeqAt.searchFrom k its.toArray.size = k.toNat := SeqAt.searchFrom_nonneg k0 _
      have eqs := SeqAt.items_eqAt (A := X.A) (vs := its.toArray) (show ReadsAll s.heap its.toArray.toList ds as from h4) r1 hxs (SeqAt.canLay_of_shaped sd) hroom
      refine call_meets PySem.F.slot_list_index ⟨_, ho, rfl⟩ PySem.F.entry_list_index (PySem.F.args_list_index_3 _ _ _)
        (SeqAt.list_index3_found a its.toArray n dd sls uy (fun m => PyData.eqv (SeqAt.readOf s.heap (its.toArray[m]?.getD .none)) d) k tk j hj (by rw [sf]; omega) (by omega) ?_ ?_) ⟨ho, fun m hm => ?_, ?_⟩
      · show PyData.eqv (SeqAt.readOf s.heap (its.toArray[j]?.getD .none)) d = true
        rw [Array.getElem?_eq_getElem hj, Option.getD_some, at_ j hj z hz]
        exact hzj
      · intro m hm hkm hmj
        have hmd : m < ds.length := by omega
        have hz' : ds[m]? = some ds[m] := List.getElem?_eq_getElem hmd
        show PyData.eqv (SeqAt.readOf s.heap (its.toArray[m]?.getD .none)) d = false
        rw [Array.getElem?_eq_getElem hm, Option.getD_some, at_ m hm _ hz']
        exact hno m _ (by rw [sf] at hkm; omega) hmj hz'
      · show SeqAt.EqAt _ _ _ _ (PyData.eqv (SeqAt.readOf s.heap (its.toArray[m]?.getD .none)) d)
        rw [Array.getElem?_eq_getElem hm, Option.getD_some]
        exact eqs _ (Array.getElem_mem hm)
      · exact ⟨.int (j : Nat), H, I.tok _, ⟨_, rfl⟩, q⟩
theorem r_indexSg3 {K : PySem.W.Frag} {H : Hp} {Q : VK} {a : Addr} {xs : List V} {v : V} {m : List Tl.Sg} {x : Tl.Sg} {j : Nat} {k : Int} (hl : SqL K H a xs) (hm : SgL K H xs m) (hv : SgV K H v x) (hj : m[j]? = some x) (k0 : 0 ≤ k) (kj : k ≤ (j : Int)) (hno : ∀ i, i < j → m[i]? ≠ some x) (q : Q (.int (j : Nat)) H) :
    rIndexD3 K (.ref a) [v, .int k] H Q := by
  refine ⟨a, v, sgD x, m.map sgD, j, sgD x, k, rfl, rfl, .lst hl hm.dps, hv.dp, sgs_shaped m, sg_shaped x, by rw [List.getElem?_map, hj]; rfl, by rw [sg_eqv]; simp, k0, kj, fun i z _ hi hz => ?_, q⟩
  rw [List.getElem?_map] at hz
  obtain ⟨y, hy, rfl⟩ := Option.map_eq_some_iff.mp hz
  rw [sg_eqv]
  refine decide_eq_false fun e => hno i hi ?_
  rw [hy, e]
def p0 {α : Type} : List α → List α → List α
  | [], [a] => [a]
  | _, _ => []
theorem p0_rel {vs zs : List V} {us ws : List Value} (r : Vals vs us) (q : Vals zs ws) : Vals (p0 vs zs) (p0 us ws) := by
  cases r with
  | cons => exact .nil
  | nil => rcases q with _ | ⟨a, _ | _⟩
           · exact .nil
           · exact .cons a .nil
           · exact .nil
def p2310 {α : Type} : List α → List α → List α
  | [], [a, b, c, d] => [c, d, b, a]
  | _, _ => []
theorem p2310_rel {vs zs : List V} {us ws : List Value} (r : Vals vs us) (q : Vals zs ws) : Vals (p2310 vs zs) (p2310 us ws) := by
  cases r with
  | cons => exact .nil
  | nil => rcases q with _ | ⟨a, _ | ⟨b, _ | ⟨c, _ | ⟨d, _ | _⟩⟩⟩⟩
           · exact .nil
           · exact .nil
           · exact .nil
           · exact .nil
           · exact .cons c (.cons d (.cons b (.cons a .nil)))
           · exact .nil
theorem r_m1 {r : V → List V → Hp → VK → Prop} {σ : L2.St} {H : Hp} {Q : VK} {to te : TE} (h : to σ H fun x H1 => (∃ a, x = .str a) ∧ te σ H1 fun y H2 => r x [y] H2 Q) : tM1 r to te σ H Q := h
theorem r_lcTo {K : PySem.W.Frag} {tl : TE} {g : TG} {tt : TT} {te : TE} {vs : List Nat} {σ : L2.St} {H : Hp} {Q : VK} (h : tl σ H fun x H1 => ∃ a, x = .ref a ∧ (∃ xs, SqT K H1 a xs) ∧ ∀ D, H1 D = none → ∃ W : Nat → Nat → Hp → Prop, (∃ m, W 0 m (upd H1 D (.lst []))) ∧ ∀ i m H, W i m H →
  ((Itt K a).stop i H ∧ Q (.ref D) H) ∨ ((Itt K a).go i H ∧ ∃ Nx : Hp → Prop, (∀ H', Nx H' → ∃ m', m' < m ∧ W (i + 1) m' H') ∧ ∀ x H', (Itt K a).yld i H x H' → g x (wipe σ vs) H' fun σ2 H2 => wipe σ2 vs = wipe σ vs ∧ tt σ2 H2 fun b H3 =>
    if b = true then te σ2 H3 fun y H4 => ∃ acc, H4 D = some (.lst acc) ∧ acc.length < sizeLine ∧ Nx (upd H4 D (.lst (acc ++ [y]))) else Nx H3)) : tLc (iTup K tl) g tt te vs σ H Q := h
theorem l_lcT {K : PySem.W.Frag} {a : Addr} {xs : List V} {g : TG} {tt : TT} {te : TE} {vs : List Nat} {σ : L2.St} {H1 : Hp} {Qd : Addr → Hp → Prop} (hs0 : SqT K H1 a xs) (Pv : Addr → Nat → Hp → Prop) (h0 : ∀ D, H1 D = none → Pv D 0 (upd H1 D (.lst []))) (hl : ∀ D i H, Pv D i H → SqT K H a xs)
    (hs : ∀ D (i : Nat) x H, H1 D = none → xs[i]? = some x → Pv D i H → g x (wipe σ vs) H fun σ2 H2 => wipe σ2 vs = wipe σ vs ∧ tt σ2 H2 fun b H3 =>
      if b = true then te σ2 H3 fun y H4 => ∃ acc, H4 D = some (.lst acc) ∧ acc.length < sizeLine ∧ Pv D (i + 1) (upd H4 D (.lst (acc ++ [y]))) else Pv D (i + 1) H3) (hd : ∀ D H, H1 D = none → Pv D xs.length H → Qd D H) :
    ∃ b, V.ref a = .ref b ∧ (∃ xs, SqT K H1 b xs) ∧ ∀ D, H1 D = none → ∃ W : Nat → Nat → Hp → Prop, (∃ m, W 0 m (upd H1 D (.lst []))) ∧ ∀ i m H, W i m H →
  ((Itt K b).stop i H ∧ Qd D H) ∨ ((Itt K b).go i H ∧ ∃ Nx : Hp → Prop, (∀ H', Nx H' → ∃ m', m' < m ∧ W (i + 1) m' H') ∧ ∀ x H', (Itt K b).yld i H x H' → g x (wipe σ vs) H' fun σ2 H2 => wipe σ2 vs = wipe σ vs ∧ tt σ2 H2 fun b H3 =>
    if b = true then te σ2 H3 fun y H4 => ∃ acc, H4 D = some (.lst acc) ∧ acc.length < sizeLine ∧ Nx (upd H4 D (.lst (acc ++ [y]))) else Nx H3) :=
  ⟨a, rfl, ⟨xs, hs0⟩, fun D hD => lc_tup (Pv D) (h0 D hD) (fun i H _ p => hl D i H p) (fun i x H hx p => hs D i x H hD hx p) fun H p => hd D H hD p⟩
/-- over the keys of a locked dict -/
theorem l_K {d : Addr} {o : Obj} {kvs : List (Key × V)} {g : TG} {tb : TS} {D : Ends} {σ : L2.St} {H : Hp} (hd : H d = some (.frz o (.dK kvs))) (Pv : Nat → L2.St → Hp → Prop) (p0 : Pv 0 σ H) (hl : ∀ i σ H, Pv i σ H → H d = some (.frz o (.dK kvs)))
    (ht : ∀ i k v σ H, kvs[i]? = some (k, v) → Pv i σ H → g (kV k) σ H fun σ2 H2 => tb { D with nx := Pv (i + 1), ct := Pv (i + 1), bk := D.nx } σ2 H2)
    (hn : ∀ σ H, Pv kvs.length σ H → D.nx σ H) :
    ∃ d' o', V.ref d = .ref d' ∧ ((∃ kvs, H d' = some (.frz o' (.dK kvs)) ∧ LoopW (Itk d' o' kvs) g tb D σ H) ∨ ∃ kvs, H d' = some (.frz o' (.dT kvs)) ∧ LoopW (Itkt d' o' kvs) g tb D σ H) := by
  refine ⟨d, o, rfl, .inl ⟨kvs, hd, for_it walk_keys Pv p0 (fun i σ H _ p => hl i σ H p) (fun i v σ H H' hi p y => ?_) hn⟩⟩
  obtain ⟨rfl, k, w, hk, rfl⟩ := y
  exact ht i k w σ _ hk p
theorem r_lcZo {K : PySem.W.Frag} {ta : TA} {g : TG} {tt : TT} {te : TE} {vs : List Nat} {σ : L2.St} {H : Hp} {Q : VK} (h : ta σ H fun us H1 => ∃ k1 k2 : Zp.Kd, us = [k1.v, k2.v] ∧ (∃ xs, k1.has K H1 xs) ∧ (∃ ys, k2.has K H1 ys) ∧ ∀ D, H1 D = none → ∃ W : Nat → Nat → Hp → Prop, (∃ m, W 0 m (upd H1 D (.lst []))) ∧ ∀ i m H, W i m H →
  ((Zp.ItzK K k1 k2).stop i H ∧ Q (.ref D) H) ∨ ((Zp.ItzK K k1 k2).go i H ∧ ∃ Nx : Hp → Prop, (∀ H', Nx H' → ∃ m', m' < m ∧ W (i + 1) m' H') ∧ ∀ x H', (Zp.ItzK K k1 k2).yld i H x H' → g x (wipe σ vs) H' fun σ2 H2 => wipe σ2 vs = wipe σ vs ∧ tt σ2 H2 fun b H3 =>
    if b = true then te σ2 H3 fun y H4 => ∃ acc, H4 D = some (.lst acc) ∧ acc.length < sizeLine ∧ Nx (upd H4 D (.lst (acc ++ [y]))) else Nx H3)) : tLc (Zp.iZipK K ta) g tt te vs σ H Q := h
theorem l_lcZ {K : PySem.W.Frag} (k1 k2 : Zp.Kd) {xs ys : List V} {g : TG} {tt : TT} {te : TE} {vs : List Nat} {σ : L2.St} {H1 : Hp} {Qd : Addr → Hp → Prop} (hx : k1.has K H1 xs) (hy : k2.has K H1 ys) (Pv : Addr → Nat → Hp → Prop) (h0 : ∀ D, H1 D = none → Pv D 0 (upd H1 D (.lst [])))
    (hl : ∀ D i H, Pv D i H → k1.has K H xs ∧ k2.has K H ys)
    (hs : ∀ D (i : Nat) x y H p, H1 D = none → xs[i]? = some x → ys[i]? = some y → Pv D i H → H p = none → g (.ref p) (wipe σ vs) (upd H p (.tup [x, y])) fun σ2 H2 => wipe σ2 vs = wipe σ vs ∧ tt σ2 H2 fun b H3 =>
      if b = true then te σ2 H3 fun y H4 => ∃ acc, H4 D = some (.lst acc) ∧ acc.length < sizeLine ∧ Pv D (i + 1) (upd H4 D (.lst (acc ++ [y]))) else Pv D (i + 1) H3) (hd : ∀ D H, H1 D = none → Pv D (min xs.length ys.length) H → Qd D H) :
    ∃ k1' k2' : Zp.Kd, [k1.v, k2.v] = [k1'.v, k2'.v] ∧ (∃ xs, k1'.has K H1 xs) ∧ (∃ ys, k2'.has K H1 ys) ∧ ∀ D, H1 D = none → ∃ W : Nat → Nat → Hp → Prop, (∃ m, W 0 m (upd H1 D (.lst []))) ∧ ∀ i m H, W i m H →
  ((Zp.ItzK K k1' k2').stop i H ∧ Qd D H) ∨ ((Zp.ItzK K k1' k2').go i H ∧ ∃ Nx : Hp → Prop, (∀ H', Nx H' → ∃ m', m' < m ∧ W (i + 1) m' H') ∧ ∀ x H', (Zp.ItzK K k1' k2').yld i H x H' → g x (wipe σ vs) H' fun σ2 H2 => wipe σ2 vs = wipe σ vs ∧ tt σ2 H2 fun b H3 =>
    if b = true then te σ2 H3 fun y H4 => ∃ acc, H4 D = some (.lst acc) ∧ acc.length < sizeLine ∧ Nx (upd H4 D (.lst (acc ++ [y]))) else Nx H3) :=
  ⟨k1, k2, rfl, ⟨_, hx⟩, ⟨_, hy⟩, fun D hD => lc_it (Zp.walk_zipK rfl) (Pv D) (h0 D hD) (fun i H _ p => hl D i H p) (fun i v H H' hi p y => by
    obtain ⟨T, a, b, rfl, hT, rfl, ha, hb⟩ := y
    exact hs D i a b H T hD ha hb p hT) fun H p => hd D H hD p⟩
/-- over zip(tuple, tuple) -/
theorem l_ZK {K : PySem.W.Frag} (k1 k2 : Zp.Kd) {xs ys : List V} {g : TG} {tb : TS} {D : Ends} {σ : L2.St} {H : Hp} (hx : k1.has K H xs) (hy : k2.has K H ys) (Pv : Nat → L2.St → Hp → Prop) (p0 : Pv 0 σ H) (hl : ∀ i σ H, Pv i σ H → k1.has K H xs ∧ k2.has K H ys)
    (ht : ∀ i x y σ H p, xs[i]? = some x → ys[i]? = some y → Pv i σ H → H p = none → g (.ref p) σ (upd H p (.tup [x, y])) fun σ2 H2 => tb { D with nx := Pv (i + 1), ct := Pv (i + 1), bk := D.nx } σ2 H2)
    (hd : ∀ σ H, Pv (min xs.length ys.length) σ H → D.nx σ H) :
    ∃ k1' k2' : Zp.Kd, [k1.v, k2.v] = [k1'.v, k2'.v] ∧ (∃ xs, k1'.has K H xs) ∧ (∃ ys, k2'.has K H ys) ∧ LoopW (Zp.ItzK K k1' k2') g tb D σ H := by
  refine ⟨k1, k2, rfl, ⟨_, hx⟩, ⟨_, hy⟩, for_it (Zp.walk_zipK (xs := xs) (ys := ys) rfl) Pv p0 (fun i σ H _ p => hl i σ H p) (fun i v σ H H' hi p yy => ?_) hd⟩
  obtain ⟨T, a, b, rfl, hT, rfl, ha, hb⟩ := yy
  exact ht i a b σ H T ha hb p hT
/-! ### a class of two fields -/
section
variable {K : PySem.W.Frag} {σ : L2.St} {H : Hp} {C : Addr} {f g : Str} {v u : V} {W : XK}
def spInit2 (C : Addr) (f g : Str) : Sp := fun vs H Q _ => ∃ (a : Addr) (v u : V), vs = [.ref a, v, u] ∧ H a = some (exo a C none) ∧
  ∀ dx, H dx = none → dx ≠ a → Q .non (upd (upd (upd H dx (exd dx [(f, v)])) a (exo a C (some dx))) dx (exd dx [(g, u), (f, v)]))
theorem r_raise2 (q : ∀ d, H d = none → W (.ref C) (some d) (upd H d (.xd [(g, u), (f, v)]))) :
    ([v, u] : List V).length ≤ 1000 ∧ ∀ a, H a = none → spInit2 C f g (.ref a :: ([v, u] ++ [])) (upd H a (exo a C none))
      (fun w H2 => w = .non ∧ ∃ (d : Addr) (fs : List (Str × V)), H2 a = some (exo a C (some d)) ∧ H2 d = some (exd d fs) ∧ H d = none ∧ W (.ref C) (some d) (upd (del H2 a) d (.xd fs))) (fun _ _ _ => False) := by
  refine ⟨by show 2 ≤ 1000; decide, fun a ha => ⟨a, v, u, rfl, upd_same, fun dx hdx hne => ⟨rfl, dx, [(g, u), (f, v)], ?_, upd_same, ?_, ?_⟩⟩⟩
  · rw [upd_ne hne.symm]
    exact upd_same
  · rw [upd_ne hne] at hdx
    exact hdx
  · rw [upd_ne hne] at hdx
    have e : upd (del (upd (upd (upd (upd H a (exo a C none)) dx (exd dx [(f, v)])) a (exo a C (some dx))) dx (exd dx [(g, u), (f, v)])) a) dx (.xd [(g, u), (f, v)]) = upd H dx (.xd [(g, u), (f, v)]) := by
      funext b
      by_cases h1 : b = dx
      · rw [h1, upd_same, upd_same]
      · rw [upd_ne h1, upd_ne h1]
        by_cases h2 : b = a
        · rw [h2, del_same, ha]
        · rw [del_ne h2, upd_ne h1, upd_ne h2, upd_ne h1, upd_ne h2]
    rw [e]
    exact q dx hdx
end
/-- for k in range(a, a + n) -/
theorem l_R2 {a n : Nat} {b : Int} {g : TG} {tb : TS} {σ : L2.St} {H : Hp} {D : Ends} (hb : b = ((a + n : Nat) : Int)) (h2 : a + n ≤ 1000000) (Pv : Nat → L2.St → Hp → Prop) (p0 : Pv 0 σ H)
    (ht : ∀ (i : Nat) σ H, i < n → Pv i σ H → g (.int ((a + i : Nat) : Int)) σ H fun σ2 H2 => tb { D with nx := Pv (i + 1), ct := Pv (i + 1), bk := D.nx } σ2 H2) (hd : ∀ σ H, Pv n σ H → D.nx σ H) :
    ∃ i j : Int, [V.int (a : Nat), V.int b] = [.int i, .int j] ∧ (-(2 ^ 62) ≤ i ∧ i < 2 ^ 62 ∧ -(2 ^ 62) ≤ j ∧ j < 2 ^ 62) ∧ LoopW (Itr i (j - i).toNat) g tb D σ H := by
  subst hb
  refine ⟨a, ((a + n : Nat) : Int), rfl, ⟨by omega, by omega, by omega, by omega⟩, for_range Pv p0 (fun i σ H hi p => ?_) fun σ H p => hd σ H ?_⟩
  · have z := ht i σ H (by omega) p
    rw [show ((a : Nat) : Int) + (i : Nat) = ((a + i : Nat) : Int) by omega]
    exact z
  · have e : (((a + n : Nat) : Int) - ((a : Nat) : Int)).toNat = n := by omega
    rw [e] at p
    exact p
/-! ### over a list or a tuple -/
def iEith (K : PySem.W.Frag) (tl : TE) : TI := fun σ H R => tl σ H fun x H1 => ∃ a, x = .ref a ∧ (((∃ xs, SqL K H1 a xs) ∧ R (Itl K a) H1) ∨ ((∃ xs, SqT K H1 a xs) ∧ R (Itt K a) H1))
theorem pi_eith {X : Cx} {tg l : Expr} {tl : TE} (hl : PE X l tl) : PI X tg l (iEith X.K tl) := by
  refine ⟨fun pins s σ H R I h => ?_⟩
  refine thn (hl.run pins s σ H _ I h) fun v s1 ⟨x, H1, I1, r1, q1⟩ => ?_
  obtain ⟨a, e, q1⟩ := q1
  subst e
  cases r1
  rcases q1 with ⟨⟨xs, hq⟩, q⟩ | ⟨⟨xs, hq⟩, q⟩
  · obtain ⟨its, rv, p, hz⟩ := I1.list hq
    refine wpAny_pyIter_list p.isList ?_
    refine ⟨s1.heap.objs.size, [s1.heap.objs.size], _, _, H1, rfl, I1.kept (t' := s1.toks) fun b o e => Heap.get?_push_of_some _ e, turn_list a _, ⟨_, Heap.get?_push_size _ rfl, rfl, rfl⟩, fun b hb => ?_, q⟩
    have e : b = s1.heap.objs.size := by simpa using hb
    subst e
    exact I1.fpOk (Nat.le_refl _) (I1.hok.fresh (Nat.le_refl _))
  · obtain ⟨its, rv, p, hz⟩ := I1.tuple hq
    refine wpAny_pyIter_tuple (show s1.heap.IsTuple a its.toArray from p) ?_
    refine ⟨s1.heap.objs.size, [s1.heap.objs.size], _, _, H1, rfl, I1.kept (t' := s1.toks) fun b o e => Heap.get?_push_of_some _ e, turn_tuple a _, ⟨_, Heap.get?_push_size _ rfl, rfl, rfl⟩, fun b hb => ?_, q⟩
    have e : b = s1.heap.objs.size := by simpa using hb
    subst e
    exact I1.fpOk (Nat.le_refl _) (I1.hok.fresh (Nat.le_refl _))
section
variable {K : PySem.W.Frag} {tl : TE} {g : TG} {tb : TS} {D : Ends} {σ : L2.St} {H : Hp}
theorem r_forEi (h : tl σ H fun x H1 => ∃ a, x = .ref a ∧ (((∃ xs, SqL K H1 a xs) ∧ LoopW (Itl K a) g tb D σ H1) ∨ ((∃ xs, SqT K H1 a xs) ∧ LoopW (Itt K a) g tb D σ H1))) : tFor (iEith K tl) g tb D σ H := h
theorem l_EL {a : Addr} {xs : List V} (hs : SqL K H a xs) (Pv : Nat → L2.St → Hp → Prop) (p0 : Pv 0 σ H) (hl : ∀ i σ H, Pv i σ H → SqL K H a xs)
    (ht : ∀ i x σ H, xs[i]? = some x → Pv i σ H → g x σ H fun σ2 H2 => tb { D with nx := Pv (i + 1), ct := Pv (i + 1), bk := D.nx } σ2 H2) (hd : ∀ σ H, Pv xs.length σ H → D.nx σ H) :
    ∃ b, V.ref a = .ref b ∧ (((∃ xs, SqL K H b xs) ∧ LoopW (Itl K b) g tb D σ H) ∨ ((∃ xs, SqT K H b xs) ∧ LoopW (Itt K b) g tb D σ H)) := by
  obtain ⟨b, e, h1, h2⟩ := l_L hs Pv p0 hl ht hd
  exact ⟨b, e, .inl ⟨h1, h2⟩⟩
theorem l_ET {a : Addr} {xs : List V} (hs : SqT K H a xs) (Pv : Nat → L2.St → Hp → Prop) (p0 : Pv 0 σ H) (hl : ∀ i σ H, Pv i σ H → SqT K H a xs)
    (ht : ∀ i x σ H, xs[i]? = some x → Pv i σ H → g x σ H fun σ2 H2 => tb { D with nx := Pv (i + 1), ct := Pv (i + 1), bk := D.nx } σ2 H2) (hd : ∀ σ H, Pv xs.length σ H → D.nx σ H) :
    ∃ b, V.ref a = .ref b ∧ (((∃ xs, SqL K H b xs) ∧ LoopW (Itl K b) g tb D σ H) ∨ ((∃ xs, SqT K H b xs) ∧ LoopW (Itt K b) g tb D σ H)) := by
  obtain ⟨b, e, h1, h2⟩ := l_T hs Pv p0 hl ht hd
  exact ⟨b, e, .inr ⟨h1, h2⟩⟩
theorem r_inSg {Q : VK} {v : V} {p : Addr} {xs : List V} {x : Tl.Sg} {m : List Tl.Sg} (h1 : SgV K H v x) (hp : SqL K H p xs) (h2 : SgL K H xs m) (q : Q (.bl (decide (x ∈ m))) H) : rInD K v (.ref p) H Q := by
  exact ⟨_, _, h1.dp, .lst hp h2.dps, sg_shaped x, sgs_shaped m, by
    have e : ((m.map sgD).any fun z => PyData.eqv z (sgD x)) = decide (x ∈ m) := by
      rw [List.any_map, Bool.eq_iff_iff, List.any_eq_true, decide_eq_true_iff]
      constructor
      · rintro ⟨y, hy, e⟩
        rw [Function.comp_apply, sg_eqv, decide_eq_true_iff] at e
        rw [← e]
        exact hy
      · intro h
        exact ⟨x, h, by rw [Function.comp_apply, sg_eqv]; exact decide_eq_true rfl⟩
    rw [e]
    exact q⟩
end
section
variable {K : PySem.W.Frag} {a : Addr} {xs : List V} {g : TG} {tt : TT} {te : TE} {vs : List Nat} {σ : L2.St} {H1 : Hp} {Qd : Addr → Hp → Prop}
/-- what a comprehension over such a thing asks -/
def LcI (J : It) (g : TG) (tt : TT) (te : TE) (vs : List Nat) (σ : L2.St) (H1 : Hp) (Qd : Addr → Hp → Prop) : Prop := ∀ D, H1 D = none → ∃ W : Nat → Nat → Hp → Prop, (∃ m, W 0 m (upd H1 D (.lst []))) ∧ ∀ i m H, W i m H →
  (J.stop i H ∧ Qd D H) ∨ (J.go i H ∧ ∃ Nx : Hp → Prop, (∀ H', Nx H' → ∃ m', m' < m ∧ W (i + 1) m' H') ∧ ∀ x H', J.yld i H x H' → g x (wipe σ vs) H' fun σ2 H2 => wipe σ2 vs = wipe σ vs ∧ tt σ2 H2 fun b H3 =>
    if b = true then te σ2 H3 fun y H4 => ∃ acc, H4 D = some (.lst acc) ∧ acc.length < sizeLine ∧ Nx (upd H4 D (.lst (acc ++ [y]))) else Nx H3)
theorem r_lcEio {tl : TE} {H : Hp} {Q : VK} (h : tl σ H fun x H1 => ∃ a, x = .ref a ∧ (((∃ xs, SqL K H1 a xs) ∧ LcI (Itl K a) g tt te vs σ H1 fun D H => Q (.ref D) H) ∨ ((∃ xs, SqT K H1 a xs) ∧ LcI (Itt K a) g tt te vs σ H1 fun D H => Q (.ref D) H))) : tLc (iEith K tl) g tt te vs σ H Q := h
theorem l_lcEL (hs0 : SqL K H1 a xs) (Pv : Addr → Nat → Hp → Prop) (h0 : ∀ D, H1 D = none → Pv D 0 (upd H1 D (.lst []))) (hl : ∀ D i H, Pv D i H → SqL K H a xs)
    (hs : ∀ D (i : Nat) x H, H1 D = none → xs[i]? = some x → Pv D i H → g x (wipe σ vs) H fun σ2 H2 => wipe σ2 vs = wipe σ vs ∧ tt σ2 H2 fun b H3 =>
      if b = true then te σ2 H3 fun y H4 => ∃ acc, H4 D = some (.lst acc) ∧ acc.length < sizeLine ∧ Pv D (i + 1) (upd H4 D (.lst (acc ++ [y]))) else Pv D (i + 1) H3) (hd : ∀ D H, H1 D = none → Pv D xs.length H → Qd D H) :
    ∃ b, V.ref a = .ref b ∧ (((∃ xs, SqL K H1 b xs) ∧ LcI (Itl K b) g tt te vs σ H1 Qd) ∨ ((∃ xs, SqT K H1 b xs) ∧ LcI (Itt K b) g tt te vs σ H1 Qd)) := by
  obtain ⟨b, e, h1, h2⟩ := l_lcL hs0 Pv h0 hl hs hd
  exact ⟨b, e, .inl ⟨h1, h2⟩⟩
theorem l_lcET (hs0 : SqT K H1 a xs) (Pv : Addr → Nat → Hp → Prop) (h0 : ∀ D, H1 D = none → Pv D 0 (upd H1 D (.lst []))) (hl : ∀ D i H, Pv D i H → SqT K H a xs)
    (hs : ∀ D (i : Nat) x H, H1 D = none → xs[i]? = some x → Pv D i H → g x (wipe σ vs) H fun σ2 H2 => wipe σ2 vs = wipe σ vs ∧ tt σ2 H2 fun b H3 =>
      if b = true then te σ2 H3 fun y H4 => ∃ acc, H4 D = some (.lst acc) ∧ acc.length < sizeLine ∧ Pv D (i + 1) (upd H4 D (.lst (acc ++ [y]))) else Pv D (i + 1) H3) (hd : ∀ D H, H1 D = none → Pv D xs.length H → Qd D H) :
    ∃ b, V.ref a = .ref b ∧ (((∃ xs, SqL K H1 b xs) ∧ LcI (Itl K b) g tt te vs σ H1 Qd) ∨ ((∃ xs, SqT K H1 b xs) ∧ LcI (Itt K b) g tt te vs σ H1 Qd)) := by
  obtain ⟨b, e, h1, h2⟩ := l_lcT hs0 Pv h0 hl hs hd
  exact ⟨b, e, .inr ⟨h1, h2⟩⟩
end
/-- any of the two bits -/
theorem two_bits (x y a b : Nat) : decide (V.int (Builtin.bitAnd (Builtin.bitOr ((x : Int) / 2 ^ ((b : Int)).toNat) ((y : Int) / 2 ^ ((a : Int)).toNat)) 1) = V.int 0) = (!x.testBit b && !y.testBit a) := by
  have hx : ((x : Int) / 2 ^ ((b : Int)).toNat) = ((x >>> b : Nat) : Int) := by
    rw [Int.toNat_natCast, Nat.shiftRight_eq_div_pow]
    push_cast
    rfl
  have hy : ((y : Int) / 2 ^ ((a : Int)).toNat) = ((y >>> a : Nat) : Int) := by
    rw [Int.toNat_natCast, Nat.shiftRight_eq_div_pow]
    push_cast
    rfl
  rw [hx, hy, Bits.bitOr_pp (Int.natCast_nonneg _) (Int.natCast_nonneg _), Int.toNat_natCast, Int.toNat_natCast]
  have h1 : Builtin.bitAnd (((x >>> b ||| y >>> a : Nat)) : Int) 1 = (((x >>> b ||| y >>> a) &&& 1 : Nat) : Int) := by
    rw [PyProof.Rows.bitAnd_pp (Int.natCast_nonneg _) (by decide), Int.toNat_natCast]
    rfl
  rw [h1, Bool.eq_iff_iff, decide_eq_true_iff, Bool.and_eq_true]
  have e : (x >>> b ||| y >>> a).testBit 0 = (x.testBit b || y.testBit a) := by
    rw [Nat.testBit_or, Nat.testBit_shiftRight, Nat.testBit_shiftRight]
    rfl
  have e2 : ((x >>> b ||| y >>> a) &&& 1) = if (x >>> b ||| y >>> a).testBit 0 then 1 else 0 := by
    rw [Nat.and_one_is_mod, Nat.testBit_zero]
    rcases Nat.mod_two_eq_zero_or_one (x >>> b ||| y >>> a) with h | h <;> simp [h]
  rw [e2, e]
  cases x.testBit b <;> cases y.testBit a <;> simp
end Dk

/-! a box of draws of any shape; further rules -/
namespace Dk
open PySem PySem.Spec PyProof.Rows L2
/-- what a law's draws change (A), and how it stands -/
structure Box where
  A : Addr → Prop
  B : Hp → Prop
  live : ∀ H, B H → ∀ x, A x → ∃ o, H x = some o
  keep : ∀ H H', B H → (∀ x o, A x → H x = some o → H' x = some o) → B H'
/-- draws were made -/
structure Drw (b : Box) (H H' : Hp) : Prop where
  hh : ∀ x o, ¬ b.A x → H x = some o → H' x = some o
  st : b.B H'
/-- G: what is known for good, H: the heap -/
structure Wb (b : Box) (G H : Hp) : Prop where
  g : Ex G H
  n : ∀ x, b.A x → G x = none
  st : b.B H
section
variable {b : Box} {G H H1 H2 H' : Hp} {p l : Addr} {o : HO}
theorem Box.fresh (b : Box) (s : b.B H) (hp : H p = none) : ¬ b.A p := fun z => by
  obtain ⟨o, e⟩ := b.live _ s _ z
  rw [hp] at e
  cases e
theorem Box.ane (b : Box) {x : Addr} (na : ¬ b.A p) (a : b.A x) : x ≠ p := fun z => na (by rw [← z]; exact a)
theorem Box.up (b : Box) (s : b.B H) (e : Ex H H') : b.B H' := b.keep _ _ s fun x o _ h => e x o h
theorem Drw.refl (s : b.B H) : Drw b H H := ⟨fun _ _ _ h => h, s⟩
theorem Drw.trans (x : Drw b H H1) (y : Drw b H1 H2) : Drw b H H2 := ⟨fun x' o n h => y.hh _ _ n (x.hh _ _ n h), y.st⟩
theorem Drw.ex (s : b.B H) (e : Ex H H') : Drw b H H' := ⟨fun x o _ h => e x o h, b.up s e⟩
theorem Drw.then (x : Drw b H H1) (e : Ex H1 H2) : Drw b H H2 := x.trans (.ex x.st e)
theorem Drw.new (x : Drw b H H1) (hp : H1 p = none) : Drw b H (upd H1 p o) := x.then (Same.new (Same.refl _) hp)
theorem Drw.put (x : Drw b H H1) (hp : H p = none) (na : ¬ b.A p) : Drw b H (upd H1 p o) :=
  ⟨fun y u n e => by rw [upd_ne (ne_of_none e hp)]; exact x.hh y u n e, b.keep _ _ x.st fun y u a e => by rw [upd_ne (b.ane na a)]; exact e⟩
theorem Drw.at (x : Drw b H H1) (na : ¬ b.A p) (e : H p = some o) : H1 p = some o := x.hh _ _ na e
theorem Wb.of (s : b.B H) (e : Ex G H) (n : ∀ x, b.A x → G x = none) : Wb b G H := ⟨e, n, s⟩
theorem Wb.ex (w : Wb b G H) (e : Ex H H') : Wb b G H' := ⟨w.g.trans e, w.n, b.up w.st e⟩
theorem Wb.dr (w : Wb b G H) (d : Drw b H H') : Wb b G H' :=
  ⟨fun x o h => d.hh x o (fun a => by rw [w.n x a] at h; cases h) (w.g x o h), w.n, d.st⟩
theorem Wb.new (w : Wb b G H) (hp : H p = none) : Wb b (upd G p o) (upd H p o) :=
  ⟨fun x u h => by
    by_cases e : x = p
    · subst e; rw [upd_same] at h ⊢; exact h
    · rw [upd_ne e] at h ⊢; exact w.g x u h, fun x a => by
    rw [upd_ne (b.ane (b.fresh w.st hp) a)]; exact w.n x a, b.keep _ _ w.st fun x u a h => by rw [upd_ne (b.ane (b.fresh w.st hp) a)]; exact h⟩
theorem Wb.put (w : Wb b G H) (gp : G p = none) (na : ¬ b.A p) : Wb b G (upd H p o) :=
  ⟨fun x u h => by
    by_cases e : x = p
    · subst e; rw [gp] at h; cases h
    · rw [upd_ne e]; exact w.g x u h, w.n, b.keep _ _ w.st fun x u a h => by rw [upd_ne (b.ane na a)]; exact h⟩
theorem Wb.free (w : Wb b G H) (hp : H p = none) : G p = none := w.g.free hp
/-- the same under more known data -/
theorem Wb.more (w : Wb b G H) (e : Ex H H') : Wb b (fun x => if (G x).isSome then G x else none) H' := by
  have q : (fun x => if (G x).isSome then G x else none) = G := by
    funext x
    cases G x <;> rfl
  rw [q]
  exact w.ex e
end
/-! ### rules -/
section
variable {K : PySem.W.Frag} {σ : L2.St} {H : Hp} {Q : VK} {D : Ends}
theorem r_callK {sp : Sp} {gV : List V → List V → List V} {E : XK} {t tk : TA} (h : t σ H fun vs H1 => tk σ H1 fun zs H2 => sp (gV vs zs) H2 Q E) : tCallK sp gV E t tk σ H Q := h
theorem r_repL {p : Addr} {v : V} {n : Nat} (hp : H p = some (.lst [v])) (hn : n ≤ 1000000) (k : ∀ l, H l = none → Q (.ref l) (upd H l (.lst (List.replicate n v)))) : rRep (.ref p) (.int (n : Nat)) H Q := by
  refine ⟨p, n, [v], rfl, rfl, hp, by omega, by omega, ?_, fun l hl => ?_⟩
  · rw [Int.toNat_natCast, List.length_singleton, sizeLine_eq]
    omega
  · have e : (List.replicate (n : Int).toNat [v]).flatten = List.replicate n v := by
      rw [Int.toNat_natCast]
      clear k hn
      induction n with
      | zero => rfl
      | succ n ih => rw [List.replicate_succ, List.flatten_cons, ih, List.replicate_succ]; rfl
    rw [e]
    exact k l hl
/-- for k in range(x, y), x and y being a and a + n -/
theorem l_R2g {a n : Nat} {x y : Int} {g : TG} {tb : TS} (hx : x = (a : Nat)) (hy : y = ((a + n : Nat) : Int)) (h2 : a + n ≤ 1000000) (Pv : Nat → L2.St → Hp → Prop) (p0 : Pv 0 σ H)
    (ht : ∀ (i : Nat) σ H, i < n → Pv i σ H → g (.int ((a + i : Nat) : Int)) σ H fun σ2 H2 => tb { D with nx := Pv (i + 1), ct := Pv (i + 1), bk := D.nx } σ2 H2) (hd : ∀ σ H, Pv n σ H → D.nx σ H) :
    ∃ i j : Int, [V.int x, V.int y] = [.int i, .int j] ∧ (-(2 ^ 62) ≤ i ∧ i < 2 ^ 62 ∧ -(2 ^ 62) ≤ j ∧ j < 2 ^ 62) ∧ LoopW (Itr i (j - i).toNat) g tb D σ H := by
  subst hx
  exact l_R2 hy h2 Pv p0 ht hd
end
theorem app_len (a b : Str) : (a ++ b).length = a.length + b.length := by
  rw [← cs_len, cs_app, List.length_append, cs_len, cs_len]
/-- x is True, x is False: x of any kind -/
def rIsB : R2 := fun x y H Q => ∃ b, y = .bl b ∧ Q (.bl (decide (x = .bl b))) H
theorem op_isB {X : Cx} : OpR X (compareOp .Is) rIsB := by
  intro pins s σ H x y v u Q I rx ry h
  obtain ⟨b, rfl, q⟩ := h
  cases (show u = Value.bool b from ry)
  cases x with
  | bl a =>
    cases (show v = Value.bool a from rx)
    by_cases e : a = b
    · subst e
      exact wpAny_is_self rfl ⟨.bl true, H, I, rfl, by simpa using q⟩
    · exact wpAny_is_other rfl (fun z => e (Value.bool.inj z)) ⟨.bl false, H, I, rfl, by simpa [e] using q⟩
  | non => cases rx; exact wpAny_is_other rfl (fun z => nomatch z) ⟨.bl false, H, I, rfl, by simpa using q⟩
  | int i => obtain ⟨t, rfl⟩ := rx; exact wpAny_is_other rfl (fun z => nomatch z) ⟨.bl false, H, I, rfl, by simpa using q⟩
  | str i => obtain ⟨t, rfl⟩ := rx; exact wpAny_is_other rfl (fun z => nomatch z) ⟨.bl false, H, I, rfl, by simpa using q⟩
  | byt i => obtain ⟨t, rfl⟩ := rx; exact wpAny_is_other rfl (fun z => nomatch z) ⟨.bl false, H, I, rfl, by simpa using q⟩
  | flt i => obtain ⟨t, rfl⟩ := rx; exact wpAny_is_other rfl (fun z => nomatch z) ⟨.bl false, H, I, rfl, by simpa using q⟩
  | ref i => cases rx; exact wpAny_is_other rfl (fun z => nomatch z) ⟨.bl false, H, I, rfl, by simpa using q⟩
  | ty i => cases rx; exact wpAny_is_other rfl (fun z => nomatch z) ⟨.bl false, H, I, rfl, by simpa using q⟩
theorem r_isB {H : Hp} {Q : VK} {x : V} {b : Bool} (q : Q (.bl (decide (x = .bl b))) H) : rIsB x (.bl b) H Q := ⟨b, rfl, q⟩
theorem r_tyS {K : PySem.W.Frag} {H : Hp} {z : Str} {P : Prop} (k : P) : tyV K "str" (.str z) H ∧ P := ⟨by unfold tyV; simp, k⟩
theorem new1 {H : Hp} {p : Addr} (hp : H p = none) (o : HO) : ∃ H', H' = upd H p o ∧ Ex H H' ∧ H' p = some o := ⟨_, rfl, Same.new (Same.refl H) hp, upd_same⟩
/-! ### the last of one sign -/
theorem subAt1 (z : Str) (c i : Nat) : Builtin.Str.subAt z ⟨#[c]⟩ i = decide ((cs z)[i]? = some c) := by
  rw [StrLaws.subAt_eq, Bool.eq_iff_iff, beq_iff_eq, decide_eq_true_iff]
  show (z.cps.toList.drop i).take 1 = [c] ↔ z.cps.toList[i]? = some c
  rw [← List.head?_drop]
  cases z.cps.toList.drop i with
  | nil => simp
  | cons a l => simp
theorem last_in {s sub : Str} {hi j : Nat} : ∀ (l : List Nat) (st : Option Nat), (forIn l st (StrLaws.lastBody s sub hi)).run = some j → st = some j ∨ j ∈ l
  | [], st, h => .inl (by simpa using h)
  | a :: l, st, h => by
    rw [List.forIn_cons] at h
    unfold StrLaws.lastBody at h
    split at h
    · rcases last_in l (some a) h with z | z
      · exact .inr (by cases z; exact List.mem_cons_self ..)
      · exact .inr (List.mem_cons_of_mem _ z)
    · rcases last_in l st h with z | z
      · exact .inl z
      · exact .inr (List.mem_cons_of_mem _ z)
theorem rfind1 (z : Str) (c a b : Nat) (hb : b ≤ z.length) : (Txt.rfindIn z ⟨#[c]⟩ a b = -1 ∧ ∀ i, a ≤ i → i < b → (cs z)[i]? ≠ some c) ∨ ∃ j : Nat, Txt.rfindIn z ⟨#[c]⟩ a b = j ∧ a ≤ j ∧ j < b ∧ (cs z)[j]? = some c ∧ ∀ i, j < i → i < b → (cs z)[i]? ≠ some c := by
  have e1 : fromIndex z.length (a : Int) = a := by
    unfold fromIndex
    rw [if_neg (by omega)]
    omega
  have e2 : toIndexW z.length (b : Int) = b := by
    unfold toIndexW
    rw [if_neg (by omega)]
    omega
  unfold Txt.rfindIn
  rw [e1, e2, StrLaws.last_eq]
  have key := StrLaws.last_run z ⟨#[c]⟩ b (List.range' a (b + 1 - a)) [] none (fun _ h => nomatch h) (fun _ h => nomatch h) (by first | exact List.pairwise_lt_range' | simpa using List.pairwise_lt_range' (s := a) (n := b + 1 - a))
  have at1 : ∀ i, StrLaws.At z ⟨#[c]⟩ b i ↔ (i < b ∧ (cs z)[i]? = some c) := fun i => by
    unfold StrLaws.At
    rw [subAt1, decide_eq_true_iff]
    show i + 1 ≤ b ∧ _ ↔ _
    exact ⟨fun h => ⟨by omega, h.2⟩, fun h => ⟨by omega, h.2⟩⟩
  have mem : ∀ i, a ≤ i → i < b → i ∈ [] ++ List.range' a (b + 1 - a) := fun i h1 h2 => by simp [List.mem_range'_1]; omega
  cases hr : (forIn (List.range' a (b + 1 - a)) none (StrLaws.lastBody z ⟨#[c]⟩ b)).run with
  | none =>
    rw [hr] at key
    exact .inl ⟨rfl, fun i h1 h2 h3 => key i (mem i h1 h2) ((at1 i).mpr ⟨h2, h3⟩)⟩
  | some j =>
    rw [hr] at key
    obtain ⟨k1, k2⟩ := key
    obtain ⟨h1, h2⟩ := (at1 j).mp k1
    by_cases ha : a ≤ j
    · exact .inr ⟨j, rfl, ha, h1, h2, fun i g1 g2 g3 => k2 i (mem i (by omega) g2) g1 ((at1 i).mpr ⟨g2, g3⟩)⟩
    · exfalso
      rcases last_in _ _ hr with z | hi
      · cases z
      · exact ha (List.mem_range'_1.mp hi).1
end Dk

/-! set(list of ints), sorted of a set of ints of any size -/
namespace Sx
open PySem PySem.Spec PyProof.Rows L2
/-- a set without members, as it is made -/
abbrev noS (w : World) : Obj := { cls := .type "set", dict := none, data := .set #[] 0 (.fresh 0 0 (!w.params.followText "set-order")) }
section
variable {P : Program} {w : World} {A : Around} {E : Value → Shared → Prop} {s : Shared}
/-- what set.__init__ leaves -/
def Done (w : World) (s : Shared) (ns : List Int) (r : Value) (t : Shared) : Prop :=
  r = .none ∧ ∃ h' tk c, t = { s with heap := h', toks := tk } ∧ SetR w h' s.heap.objs.size (fun j => decide (j ∈ ns)) c ∧ c ≤ ns.length ∧ ∀ b o, s.heap.get? b = some o → h'.get? b = some o
theorem vals_at {items : Array Value} {ns : List Int} (hi : IntsAre items.toList ns) (hz : items.size = ns.length) (i : Nat) (v : Value) (hv : items[i]? = some v) : ∃ k t, ns[i]? = some k ∧ v = .int k t := by
  have il : i < ns.length := by
    rw [← hz]
    exact (Array.getElem?_eq_some_iff.mp hv).1
  have ⟨t, e⟩ := IntsAre.int_at hi i v (by rw [Array.getElem?_toList]; exact hv)
  refine ⟨ns[i], t, List.getElem?_eq_getElem il, e.trans ?_⟩
  rw [List.getD_eq_getElem?_getD, List.getElem?_eq_getElem il]
  rfl
set_option maxHeartbeats 6400000 in
theorem set_init {l : Addr} {items : Array Value} {ns : List Int} (hh : A.handled = none) (hl : s.heap.IsList l items) (hi : IntsAre items.toList ns) (hb : ns.length + 1 < scanBound) :
    codeAny (model P w) A (.call (.builtin "set.__init__") ⟨[.ref s.heap.objs.size, .ref l], []⟩) (wants (Done w s ns) E) { s with heap := s.heap.push (noS w) } := by
  have hz : items.size = ns.length := by
    rw [← IntsAre.length hi, Array.length_toList]
  have hS : (s.heap.push (noS w)).get? s.heap.objs.size = some (noS w) := Heap.get?_push_size _ rfl
  have hT : Shared.TypeIs { s with heap := s.heap.push (noS w) } (.ref s.heap.objs.size) "set" := ⟨_, hS, rfl⟩
  refine codeAny_call_builtin F.called_set.init.plain F.entry_set_init (check_set_init_1 hT ?_)
  obtain ⟨⟨oc, od, da, os⟩, hol, c1, nl, c2⟩ := hl
  cases c1
  cases c2
  have l1 : (s.heap.push (noS w)).get? l = some { cls := .type "list", dict := od, data := .seq items nl, slots := os } := Heap.get?_push_of_some _ hol
  have l2 : (s.heap.push (noS w)).IsList l items := ⟨_, l1, rfl, nl, rfl⟩
  have f1 := F.sub_list_set
  have f2 := F.sub_list_frozenset
  have f3 : (Value.type "list" == Value.type "dict") = false := by decide
  have lt : l < s.heap.objs.size := Heap.lt_size hol
  have sz : (s.heap.push (noS w)).objs.size = s.heap.objs.size + 1 := Heap.size_push ..
  unfold Builtin.«set.__init__» noKeywords Builtin.Frozenset.updateFrom
  generalize hy : pyIter = PI
  wp_walk
  subst hy
  refine wpAny_pyIter_list l2 (wpAny_bind (wpAny_runValue ?_))
  have nl1 : l ≠ (s.heap.push (noS w)).objs.size := by
    rw [sz]
    exact Nat.ne_of_lt (Nat.lt_succ_of_lt lt)
  have nin : s.heap.objs.size ∉ [(s.heap.push (noS w)).objs.size, l] := fun z => by
    rcases List.mem_cons.mp z with z | z
    · rw [sz] at z
      exact absurd z (Nat.ne_of_lt (Nat.lt_succ_self _))
    · exact absurd (List.mem_singleton.mp z) (Nat.ne_of_gt lt)
  refine set_update_ints ((Walks.list (by simp [hh]) _ l nl1 items).toS) s.heap.objs.size nin ns hz hb (vals_at hi hz) (items.size - 0) 0 _ (by omega) (Nat.zero_le _) ⟨⟨_, Heap.get?_push_size _ rfl, rfl, rfl⟩, l2.push _⟩ ⟨0, Nat.le_refl 0, setR_new_at (Heap.get?_push_of_some _ hS)⟩ fun s' c' hm hc' hS' => ?_
  obtain ⟨h', g2, d', tk', o'⟩ := s'
  cases (show g2 = s.gens from hm.gens)
  cases (show d' = s.drawn from hm.drawn)
  cases (show o' = s.os from hm.os)
  rw [hz] at hc'
  refine wpAny_pure ?_
  refine wpAny_pure ⟨rfl, h', tk', c', rfl, hS', hc', fun b o e => ?_⟩
  have lb : b < s.heap.objs.size := Heap.lt_size e
  refine hm.heap b o (fun z => ?_) (Heap.get?_push_of_some _ (Heap.get?_push_of_some _ e))
  rcases List.mem_cons.mp z with z | z
  · exact absurd z (Nat.ne_of_lt lb)
  · have z := List.mem_singleton.mp z
    rw [sz] at z
    exact absurd z (Nat.ne_of_lt (Nat.lt_succ_of_lt lb))
set_option maxHeartbeats 6400000 in
theorem set_list {l : Addr} {items : Array Value} {ns : List Int} {Q : Value → Shared → Prop} (hh : A.handled = none) (hl : s.heap.IsList l items) (hi : IntsAre items.toList ns) (hb : ns.length + 1 < scanBound)
    (h : ∀ (h' : Heap) (tk c : Nat), SetR w h' s.heap.objs.size (fun j => decide (j ∈ ns)) c → c ≤ ns.length → (∀ b o, s.heap.get? b = some o → h'.get? b = some o) → Q (.ref s.heap.objs.size) { s with heap := h', toks := tk }) :
    wpAny (model P w) A (call (.type "set") [.ref l]) Q E s := by
  have ⟨c, tl, hmro⟩ := F.called_set.mro
  have hmade := F.called_set.made
  have hsub := F.called_set.sub
  refine wpAny_call (codeAny_of_tree ?_)
  show wpAny _ _ (callAny (.type "set") _) _ _ _
  refine wpAny_pure ⟨Code.quiet_builtin _ (by decide +kernel), codeAny_builtin F.entry_type_call ?_⟩
  rw [Around.under_plain (weight_type_call_type "set" [.ref l] []) rfl]
  have h1 := F.called_set.notType
  have h2 := F.called_set.canCreate
  have hct := F.typeCall_set_1 (.ref l)
  repeat (any_goals (first | assumption | wp_step))
  refine codeAny_mono (code_set_led1 (.ref l) (E := E) (Q₁ := fun v t => v = .ref s.heap.objs.size ∧ t = { s with heap := s.heap.push (noS w) }) ⟨rfl, rfl⟩) fun r t hr => ?_
  cases r with
  | error e => exact hr
  | ok fl =>
    cases fl with
    | ret v =>
      obtain ⟨rfl, rfl⟩ := hr
      have hT : Shared.TypeIs { s with heap := s.heap.push (noS w) } (.ref s.heap.objs.size) "set" := ⟨_, Heap.get?_push_size _ rfl, rfl⟩
      have hli := F.called_set.init.lookup
      have hbi := F.called_set.init.bind (.ref s.heap.objs.size)
      repeat (any_goals (first | assumption | wp_step))
      refine codeAny_mono (set_init (E := E) (by simpa using hh) hl hi hb) fun r2 t2 hr2 => ?_
      cases r2 with
      | error e => exact hr2
      | ok fl2 =>
        cases fl2 with
        | ret v2 =>
          obtain ⟨rfl, h', tk, c', rfl, x1, x2, x3⟩ := hr2
          repeat (any_goals (first | assumption | wp_step))
          exact h _ _ _ x1 x2 x3
        | _ => exact hr2.elim
    | _ => exact hr.elim
theorem sorted_setU {a : Addr} {S : Int → Bool} {n : Nat} {Q : Value → Shared → Prop} (R : SetR w s.heap a S n) (hh : A.handled = none)
    (hQ : ∀ s' p (out : List Value) (c : Nat) (ns : List Int), (∀ b o, s.heap.get? b = some o → s'.heap.get? b = some o) → s'.gens = s.gens → s'.os = s.os → s.heap.objs.size ≤ p →
      s'.heap.get? p = some (seqObj "list" out.toArray c) → IntsAre out ns → ns.Pairwise (· < ·) → (∀ k, k ∈ ns ↔ S k = true) → ns.length = n → Q (.ref p) s') :
    wpAny (model P w) A (call (.builtin "sorted") [.ref a]) Q E s := by
  obtain ⟨o, es, ep, t, ho, hex, hd, g, nd, hm, hb, hf, hn, hr, hl⟩ := R
  refine Calls.call_function_entry kind_sorted plain_sorted entry_sorted (args_sorted1 _) ?_
  unfold Builtin.«sorted»
  refine wpAny_bind (m := checkCount "sorted" 1 1 _) (wpAny_pure ?_)
  refine wpAny_bind (collect_set (A := A.in1) hh ⟨o, ho, hex.1, hd⟩ hf hb hr hl fun s1 vs k1 hz g1 o1 pm => ?_)
  have lv : vs.length = n := by rw [pm.length_eq, List.length_map, Array.length_toList]; exact hn
  have hv : vs.length ≤ sizeLine := by
    rw [lv, ← hn]
    exact Nat.le_of_lt (Nat.lt_trans hb (by decide))
  have hI : IntsAre vs (vs.map Builtin.Re.reRawOf) := ints_of vs fun v hv => by
    obtain ⟨e, he, q⟩ := List.mem_map.mp (pm.mem_iff.mp hv)
    obtain ⟨k, tk, h1, _⟩ := g e he
    exact ⟨k, tk, by rw [← q]; exact h1⟩
  have pk : (vs.map Builtin.Re.reRawOf).Perm (es.toList.map keyOf) := by
    have q := pm.map Builtin.Re.reRawOf
    rw [List.map_map] at q
    exact q
  refine wpAny_bind (wpAny_newList ?_ hv)
  have hoL : (s1.heap.push (seqObj "list" vs.toArray 0)).get? s1.heap.objs.size = some (seqObj "list" vs.toArray 0) := Heap.get?_push_size _ rfl
  refine wpAny_bind (wpAny_holding (wpAny_call_entry slot_list_sort ⟨_, hoL, rfl⟩ entry_list_sort (SrtO.list_sort_ord SrtO.swo_int hoL hv (fun h2 => SrtO.ints_sortable hI h2) fun out a1 a2 => ⟨_, rfl, ?_⟩) (args_list_sort _)))
  obtain ⟨b1, b2, b3⟩ := SrtO.ints_out hI a1 a2
  obtain ⟨c, hc⟩ := sortedHeap_at (vs := vs) (out := out.toArray) hoL
  have pn : (out.map SrtO.iv).Perm (es.toList.map keyOf) := b2.trans pk
  refine wpAny_pure ⟨_, rfl, hQ _ s1.heap.objs.size out c _ (fun b u e => ?_) g1 o1 hz hc b1 (lt_of_le_nodup _ b3 (pn.nodup_iff.mpr nd)) (fun k => by rw [pn.mem_iff, ← hm k]) ?_⟩
  · have q := k1 b u e
    have lt := Heap.lt_size q
    show (sortedHeap (s1.heap.push (seqObj "list" vs.toArray 0)) s1.heap.objs.size vs out.toArray).get? b = some u
    rw [sortedHeap_old (Nat.ne_of_lt lt) (by rw [size_push']; exact Nat.lt_succ_of_lt lt)]
    exact Heap.get?_push_of_some _ q
  · rw [pn.length_eq, List.length_map, Array.length_toList]; exact hn
end
section
variable {X : Cx}
def rSetL (K : PySem.W.Frag) (w : World) : List V → Hp → VK → Prop := fun xs H Q => ∃ (l : Addr) (ns : List Int), xs = [V.ref l] ∧ SqL K H l (ns.map V.int) ∧ ns.length ≤ 4000 ∧ ∀ p c, c ≤ ns.length → H p = none → Q (.ref p) (upd H p (SetO w p (fun j => decide (j ∈ ns)) c))
theorem cr_setL (hc : X.calm = true) : CallR X (.type "set") (rSetL X.K X.w) := by
  intro pins s σ H vs us Q I r h
  obtain ⟨l, ns, rfl, hs, hb, q⟩ := h
  obtain ⟨its, rv, hl, hz⟩ := I.list hs
  rw [Vals.ref1 r]
  refine set_list (I.ok.hd hc) hl.isList (by simpa using RZ.intsAre_vals rv) (by unfold scanBound; omega) fun h' tk c R hcn kp => ?_
  exact ⟨.ref _, _, I.laid (t' := tk) kp (Nat.le_refl _) (setO_new R), rfl, q _ c hcn (I.hok.fresh (Nat.le_refl _))⟩
def rSortSU (w : World) : List V → Hp → VK → Prop := fun vs H Q => ∃ (a : Addr) (S : Int → Bool) (n : Nat), vs = [V.ref a] ∧ H a = some (SetO w a S n) ∧ n ≤ 4000 ∧
  ∀ (ns : List Int) (p : Addr), ns.Pairwise (· < ·) → (∀ k : Int, k ∈ ns ↔ S k = true) → H p = none → Q (.ref p) (upd H p (.lst (ns.map V.int)))
theorem cr_sortSU (hc : X.calm = true) : CallR X (.builtin "sorted") (rSortSU X.w) := by
  intro pins s σ H vs us Q I r h
  obtain ⟨a, S, n, rfl, ha, hn4, q⟩ := h
  have R := setO_get I ha
  rw [Vals.ref1 r]
  refine sorted_setU R (I.ok.hd hc) fun s' p out c ns k g o hp hg hi hs hm hl => ?_
  have hlen : (ns.map V.int).length ≤ sizeLine := by rw [List.length_map, hl, sizeLine_eq]; omega
  have hn : H p = none := I.hok.fresh hp
  have J : Inv X pins σ (upd H p (.lst (ns.map V.int))) { s with heap := s'.heap, gens := s'.gens, drawn := s'.drawn, toks := s'.toks } :=
    I.call (ch := []) (Un.laid k hp hn) (I.hok.laid k hp ⟨hlen, out, c, vals_of_ints hi, hg⟩) (by rw [g]; exact I.bare) (fun _ z => nomatch z)
  have e : s' = { s with heap := s'.heap, gens := s'.gens, drawn := s'.drawn, toks := s'.toks } := by
    cases s'
    cases s
    cases o
    rfl
  rw [e]
  exact ⟨.ref p, _, J, rfl, q ns p hs hm hn⟩
end
end Sx

namespace Pk
abbrev Iv := Int × Int
def cell (R : List Iv) (x : Int) : Prop := ∃ r ∈ R, r.1 ≤ x ∧ x < r.2
def inn (R : List Iv) (x : Int) : Prop := ∃ r ∈ R, r.1 < x ∧ x < r.2
/-- stretches with signs, one behind another -/
def Chn (R : List Iv) : Prop := (∀ r ∈ R, r.1 < r.2) ∧ R.Pairwise (fun a b => a.2 ≤ b.1)
theorem Chn.tail {r : Iv} {R : List Iv} (h : Chn (r :: R)) : Chn R := ⟨fun x hx => h.1 x (List.mem_cons_of_mem _ hx), (List.pairwise_cons.mp h.2).2⟩
theorem Chn.head {r : Iv} {R : List Iv} (h : Chn (r :: R)) : r.1 < r.2 ∧ ∀ s ∈ R, r.2 ≤ s.1 := ⟨h.1 r (List.mem_cons_self ..), (List.pairwise_cons.mp h.2).1⟩
theorem cell_cons {r : Iv} {R : List Iv} {x : Int} : cell (r :: R) x ↔ (r.1 ≤ x ∧ x < r.2) ∨ cell R x := by
  unfold cell
  constructor
  · rintro ⟨s, hs, h⟩
    rcases List.mem_cons.mp hs with rfl | hs
    · exact .inl h
    · exact .inr ⟨s, hs, h⟩
  · rintro (h | ⟨s, hs, h⟩)
    · exact ⟨r, List.mem_cons_self .., h⟩
    · exact ⟨s, List.mem_cons_of_mem _ hs, h⟩
theorem inn_cons {r : Iv} {R : List Iv} {x : Int} : inn (r :: R) x ↔ (r.1 < x ∧ x < r.2) ∨ inn R x := by
  unfold inn
  constructor
  · rintro ⟨s, hs, h⟩
    rcases List.mem_cons.mp hs with rfl | hs
    · exact .inl h
    · exact .inr ⟨s, hs, h⟩
  · rintro (h | ⟨s, hs, h⟩)
    · exact ⟨r, List.mem_cons_self .., h⟩
    · exact ⟨s, List.mem_cons_of_mem _ hs, h⟩
theorem cell_nil {x : Int} : ¬ cell [] x := fun ⟨_, h, _⟩ => nomatch h
theorem inn_nil {x : Int} : ¬ inn [] x := fun ⟨_, h, _⟩ => nomatch h
theorem Chn.above {r : Iv} {R : List Iv} (h : Chn (r :: R)) {x : Int} : cell R x → r.2 ≤ x := fun ⟨s, hs, hx⟩ => Int.le_trans (h.head.2 s hs) hx.1
theorem Chn.above2 {r : Iv} {R : List Iv} (h : Chn (r :: R)) {x : Int} : inn R x → r.2 < x := fun ⟨s, hs, hx⟩ => Int.lt_of_le_of_lt (h.head.2 s hs) hx.1
theorem cell_empty {R : List Iv} (h : Chn R) (e : ∀ x, ¬ cell R x) : R = [] := by
  cases R with
  | nil => rfl
  | cons r R => exact absurd (cell_cons.mpr (.inl ⟨Int.le_refl _, h.head.1⟩)) (e r.1)
/-- such rows are told by their cells and by the points within -/
theorem Chn.uniq : ∀ {R S : List Iv}, Chn R → Chn S → (∀ x, cell R x ↔ cell S x) → (∀ x, inn R x ↔ inn S x) → R = S
  | [], S, _, hS, hc, _ => (cell_empty hS fun x h => cell_nil ((hc x).mpr h)).symm
  | r :: R, [], hR, _, hc, _ => cell_empty hR fun x h => cell_nil ((hc x).mp h)
  | r :: R, s :: S, hR, hS, hc, hi => by
    have r0 := hR.head.1
    have s0 := hS.head.1
    have e1 : r.1 = s.1 := by
      have h1 := (hc r.1).mp (cell_cons.mpr (.inl ⟨Int.le_refl _, r0⟩))
      have h2 := (hc s.1).mpr (cell_cons.mpr (.inl ⟨Int.le_refl _, s0⟩))
      have g1 : s.1 ≤ r.1 := by
        rcases cell_cons.mp h1 with h | h
        · exact h.1
        · have := hS.above h; omega
      have g2 : r.1 ≤ s.1 := by
        rcases cell_cons.mp h2 with h | h
        · exact h.1
        · have := hR.above h; omega
      omega
    have e2 : r.2 = s.2 := by
      rcases Int.lt_trichotomy r.2 s.2 with c | c | c
      · exfalso
        have := (hi r.2).mpr (inn_cons.mpr (.inl ⟨by omega, c⟩))
        rcases inn_cons.mp this with h | h
        · omega
        · have := hR.above2 h; omega
      · exact c
      · exfalso
        have := (hi s.2).mp (inn_cons.mpr (.inl ⟨by omega, c⟩))
        rcases inn_cons.mp this with h | h
        · omega
        · have := hS.above2 h; omega
    have e : r = s := Prod.ext e1 e2
    subst e
    refine congrArg (r :: ·) (Chn.uniq hR.tail hS.tail (fun x => ?_) fun x => ?_)
    · constructor
      · intro h
        have g := hR.above h
        rcases cell_cons.mp ((hc x).mp (cell_cons.mpr (.inr h))) with z | z
        · omega
        · exact z
      · intro h
        have g := hS.above h
        rcases cell_cons.mp ((hc x).mpr (cell_cons.mpr (.inr h))) with z | z
        · omega
        · exact z
    · constructor
      · intro h
        have g := hR.above2 h
        rcases inn_cons.mp ((hi x).mp (inn_cons.mpr (.inr h))) with z | z
        · omega
        · exact z
      · intro h
        have g := hS.above2 h
        rcases inn_cons.mp ((hi x).mpr (inn_cons.mpr (.inr h))) with z | z
        · omega
        · exact z
/-! ### by neighbouring ends: the law's way -/
/-- J: whether a run goes on at an end; C p q: whether the segment is covered -/
def go (J : Int → Bool) (C : Int → Int → Bool) : List Int → Option Int → List Iv
  | [], _ => []
  | p :: rest, b =>
    let behind := match rest with | [] => false | q :: _ => C p q
    match b with
    | some b0 => if !behind || !J p then (b0, p) :: go J C rest (if behind then some p else none) else go J C rest (some b0)
    | none => go J C rest (if behind then some p else none)
variable {J : Int → Bool} {C : Int → Int → Bool} {U I : Int → Prop}
/-- the ends from here: what is covered between two neighbours, and nothing behind the last -/
inductive Sp (C : Int → Int → Bool) (U I : Int → Prop) : List Int → Prop
  | one {p : Int} : (∀ x, p ≤ x → ¬ U x) → (∀ x, p < x → ¬ I x) → Sp C U I [p]
  | cons {p q : Int} {rest : List Int} : p < q → (∀ x, p ≤ x → x < q → (U x ↔ C p q = true)) → (∀ x, p < x → x < q → (I x ↔ C p q = true)) → Sp C U I (q :: rest) → Sp C U I (p :: q :: rest)
theorem go_ok (hI : ∀ p, I p → U p ∧ U (p - 1)) (hJ : ∀ p, U p → U (p - 1) → (I p ↔ J p = true)) : ∀ {l : List Int} {p : Int}, Sp C U I (p :: l) → ∀ b : Option Int, (∀ b0, b = some b0 → b0 < p ∧ U (p - 1)) → (b = none → ¬ I p) →
    Chn (go J C (p :: l) b) ∧ (∀ r ∈ go J C (p :: l) b, p ≤ r.1 ∨ b = some r.1) ∧ (∀ x, cell (go J C (p :: l) b) x ↔ (∃ b0, b = some b0 ∧ b0 ≤ x ∧ x < p) ∨ (p ≤ x ∧ U x)) ∧
    (∀ x, inn (go J C (p :: l) b) x ↔ (∃ b0, b = some b0 ∧ b0 < x ∧ x < p) ∨ (p ≤ x ∧ I x))
  | [], p, .one hU hI', none, _, hn => by
    have e : go J C [p] none = [] := rfl
    rw [e]
    refine ⟨⟨fun r h => absurd h List.not_mem_nil, List.Pairwise.nil⟩, (fun r h => absurd h List.not_mem_nil), fun x => ⟨fun h => absurd h cell_nil, ?_⟩, fun x => ⟨fun h => absurd h inn_nil, ?_⟩⟩
    · rintro (⟨_, h, _⟩ | ⟨h1, h2⟩)
      · cases h
      · exact absurd h2 (hU x h1)
    · rintro (⟨_, h, _⟩ | ⟨h1, h2⟩)
      · cases h
      · exact absurd (hI x h2).1 (hU x h1)
  | [], p, .one hU hI', some b0, hb, _ => by
    have e : go J C [p] (some b0) = [(b0, p)] := rfl
    rw [e]
    have := (hb b0 rfl).1
    refine ⟨⟨fun r h => by rw [List.mem_singleton.mp h]; exact this, List.pairwise_singleton _ _⟩, (fun r h => .inr (by rw [List.mem_singleton.mp h])), fun x => ?_, fun x => ?_⟩
    · rw [cell_cons]
      constructor
      · rintro (h | h)
        · exact .inl ⟨b0, rfl, h⟩
        · exact absurd h cell_nil
      · rintro (⟨_, h, h2⟩ | ⟨h1, h2⟩)
        · cases h; exact .inl h2
        · exact absurd h2 (hU x h1)
    · rw [inn_cons]
      constructor
      · rintro (h | h)
        · exact .inl ⟨b0, rfl, h⟩
        · exact absurd h inn_nil
      · rintro (⟨_, h, h2⟩ | ⟨h1, h2⟩)
        · cases h; exact .inl h2
        · exact absurd (hI x h2).1 (hU x h1)
  | q :: rest, p, .cons pq hU hI' sp, b, hb, hn => by
    have Up : U p ↔ C p q = true := hU p (Int.le_refl _) pq
    have Uq : U (q - 1) ↔ C p q = true := hU (q - 1) (by omega) (by omega)
    cases c : C p q with
    | false =>
      have nU : ∀ x, p ≤ x → x < q → ¬ U x := fun x h1 h2 h => by have := (hU x h1 h2).mp h; rw [c] at this; cases this
      have nI : ∀ x, p ≤ x → x ≤ q → ¬ I x := fun x h1 h2 h => by
        rcases Int.lt_or_le x q with z | z
        · exact nU x h1 z (hI x h).1
        · exact nU (x - 1) (by omega) (by omega) (hI x h).2
      obtain ⟨k1, k2, k3, k4⟩ := go_ok hI hJ sp none (fun _ h => nomatch h) (fun _ => nI q (by omega) (Int.le_refl _))
      have ce : ∀ x, cell (go J C (q :: rest) none) x ↔ p ≤ x ∧ U x := fun x => by
        rw [k3]
        constructor
        · rintro (⟨_, h, _⟩ | h)
          · cases h
          · exact ⟨by omega, h.2⟩
        · intro h
          refine .inr ⟨?_, h.2⟩
          rcases Int.lt_or_le x q with z | z
          · exact absurd h.2 (nU x h.1 z)
          · exact z
      have ie : ∀ x, inn (go J C (q :: rest) none) x ↔ p ≤ x ∧ I x := fun x => by
        rw [k4]
        constructor
        · rintro (⟨_, h, _⟩ | h)
          · cases h
          · exact ⟨by omega, h.2⟩
        · intro h
          refine .inr ⟨?_, h.2⟩
          rcases Int.lt_or_le x q with z | z
          · exact absurd h.2 (nI x h.1 (by omega))
          · exact z
      cases b with
      | none =>
        have e : go J C (p :: q :: rest) none = go J C (q :: rest) none := by
          show go J C (q :: rest) (if C p q = true then some p else none) = _
          rw [c]; rfl
        rw [e]
        refine ⟨k1, fun r hr => ?_, fun x => ?_, fun x => ?_⟩
        · rcases k2 r hr with z | z
          · exact .inl (by omega)
          · cases z
        · rw [ce]
          exact ⟨.inr, fun h => h.elim (fun ⟨_, z, _⟩ => nomatch z) id⟩
        · rw [ie]
          exact ⟨.inr, fun h => h.elim (fun ⟨_, z, _⟩ => nomatch z) id⟩
      | some b0 =>
        have b1 := (hb b0 rfl).1
        have e : go J C (p :: q :: rest) (some b0) = (b0, p) :: go J C (q :: rest) none := by
          show (if (!C p q || !J p) = true then (b0, p) :: go J C (q :: rest) (if C p q = true then some p else none) else go J C (q :: rest) (some b0)) = _
          rw [c]; rfl
        rw [e]
        refine ⟨⟨fun r hr => ?_, List.pairwise_cons.mpr ⟨fun r hr => ?_, k1.2⟩⟩, fun r hr => ?_, fun x => ?_, fun x => ?_⟩
        · rcases List.mem_cons.mp hr with rfl | hr
          · exact b1
          · exact k1.1 r hr
        · rcases k2 r hr with z | z
          · show p ≤ r.1; omega
          · cases z
        · rcases List.mem_cons.mp hr with rfl | hr
          · exact .inr rfl
          · rcases k2 r hr with z | z
            · exact .inl (by omega)
            · cases z
        · rw [cell_cons, ce]
          exact or_congr ⟨fun h => ⟨b0, rfl, h⟩, fun ⟨_, h, h2⟩ => by cases h; exact h2⟩ Iff.rfl
        · rw [inn_cons, ie]
          exact or_congr ⟨fun h => ⟨b0, rfl, h⟩, fun ⟨_, h, h2⟩ => by cases h; exact h2⟩ Iff.rfl
    | true =>
      have aU : ∀ x, p ≤ x → x < q → U x := fun x h1 h2 => (hU x h1 h2).mpr c
      have aI : ∀ x, p < x → x < q → I x := fun x h1 h2 => (hI' x h1 h2).mpr c
      have hbq : ∀ d : Int, d ≤ p → ∀ b0, some d = some b0 → b0 < q ∧ U (q - 1) := fun d hd b0 h => by
        cases h
        exact ⟨by omega, aU (q - 1) (by omega) (by omega)⟩
      cases b with
      | none =>
        obtain ⟨k1, k2, k3, k4⟩ := go_ok hI hJ sp (some p) (hbq p (Int.le_refl _)) (fun h => nomatch h)
        have e : go J C (p :: q :: rest) none = go J C (q :: rest) (some p) := by
          show go J C (q :: rest) (if C p q = true then some p else none) = _
          rw [c]; rfl
        rw [e]
        refine ⟨k1, fun r hr => ?_, fun x => ?_, fun x => ?_⟩
        · rcases k2 r hr with z | z
          · exact .inl (by omega)
          · have := Option.some.inj z; exact .inl (by omega)
        · rw [k3]
          constructor
          · rintro (⟨_, h, h2⟩ | h)
            · cases h; exact .inr ⟨h2.1, aU x h2.1 h2.2⟩
            · exact .inr ⟨by omega, h.2⟩
          · rintro (⟨_, h, _⟩ | h)
            · cases h
            · rcases Int.lt_or_le x q with z | z
              · exact .inl ⟨p, rfl, h.1, z⟩
              · exact .inr ⟨z, h.2⟩
        · rw [k4]
          constructor
          · rintro (⟨_, h, h2⟩ | h)
            · cases h; exact .inr ⟨by omega, aI x h2.1 h2.2⟩
            · exact .inr ⟨by omega, h.2⟩
          · rintro (⟨_, h, _⟩ | h)
            · cases h
            · rcases Int.lt_or_le x q with z | z
              · refine .inl ⟨p, rfl, ?_, z⟩
                rcases Int.lt_or_le p x with y | y
                · exact y
                · rw [show x = p by omega] at h
                  exact absurd h.2 (hn rfl)
              · exact .inr ⟨z, h.2⟩
      | some b0 =>
        obtain ⟨b1, b2⟩ := hb b0 rfl
        have Ip := hJ p (aU p (Int.le_refl _) pq) b2
        cases j : J p with
        | true =>
          obtain ⟨k1, k2, k3, k4⟩ := go_ok hI hJ sp (some b0) (hbq b0 (by omega)) (fun h => nomatch h)
          have e : go J C (p :: q :: rest) (some b0) = go J C (q :: rest) (some b0) := by
            show (if (!C p q || !J p) = true then (b0, p) :: go J C (q :: rest) (if C p q = true then some p else none) else go J C (q :: rest) (some b0)) = _
            rw [c, j]; rfl
          rw [e]
          have Ip := Ip.mpr j
          refine ⟨k1, fun r hr => ?_, fun x => ?_, fun x => ?_⟩
          · rcases k2 r hr with z | z
            · exact .inl (by omega)
            · exact .inr z
          · rw [k3]
            constructor
            · rintro (⟨_, h, h2⟩ | h)
              · cases h
                rcases Int.lt_or_le x p with z | z
                · exact .inl ⟨b0, rfl, h2.1, z⟩
                · exact .inr ⟨z, aU x z h2.2⟩
              · exact .inr ⟨by omega, h.2⟩
            · rintro (⟨_, h, h2⟩ | h)
              · cases h; exact .inl ⟨b0, rfl, h2.1, by omega⟩
              · rcases Int.lt_or_le x q with z | z
                · exact .inl ⟨b0, rfl, by omega, z⟩
                · exact .inr ⟨z, h.2⟩
          · rw [k4]
            constructor
            · rintro (⟨_, h, h2⟩ | h)
              · cases h
                rcases Int.lt_trichotomy x p with z | z | z
                · exact .inl ⟨b0, rfl, h2.1, z⟩
                · exact .inr ⟨by omega, by rw [z]; exact Ip⟩
                · exact .inr ⟨by omega, aI x z h2.2⟩
              · exact .inr ⟨by omega, h.2⟩
            · rintro (⟨_, h, h2⟩ | h)
              · cases h; exact .inl ⟨b0, rfl, h2.1, by omega⟩
              · rcases Int.lt_or_le x q with z | z
                · exact .inl ⟨b0, rfl, by omega, z⟩
                · exact .inr ⟨z, h.2⟩
        | false =>
          have nIp : ¬ I p := fun z => by have := Ip.mp z; rw [j] at this; cases this
          obtain ⟨k1, k2, k3, k4⟩ := go_ok hI hJ sp (some p) (hbq p (Int.le_refl _)) (fun h => nomatch h)
          have e : go J C (p :: q :: rest) (some b0) = (b0, p) :: go J C (q :: rest) (some p) := by
            show (if (!C p q || !J p) = true then (b0, p) :: go J C (q :: rest) (if C p q = true then some p else none) else go J C (q :: rest) (some b0)) = _
            rw [c, j]; rfl
          rw [e]
          have low : ∀ r ∈ go J C (q :: rest) (some p), p ≤ r.1 := fun r hr => by
            rcases k2 r hr with z | z
            · omega
            · have := Option.some.inj z; omega
          refine ⟨⟨fun r hr => ?_, List.pairwise_cons.mpr ⟨low, k1.2⟩⟩, fun r hr => ?_, fun x => ?_, fun x => ?_⟩
          · rcases List.mem_cons.mp hr with rfl | hr
            · exact b1
            · exact k1.1 r hr
          · rcases List.mem_cons.mp hr with rfl | hr
            · exact .inr rfl
            · exact .inl (low r hr)
          · rw [cell_cons, k3]
            constructor
            · rintro (h | ⟨_, h, h2⟩ | h)
              · exact .inl ⟨b0, rfl, h⟩
              · cases h; exact .inr ⟨h2.1, aU x h2.1 h2.2⟩
              · exact .inr ⟨by omega, h.2⟩
            · rintro (⟨_, h, h2⟩ | h)
              · cases h; exact .inl h2
              · rcases Int.lt_or_le x q with z | z
                · exact .inr (.inl ⟨p, rfl, h.1, z⟩)
                · exact .inr (.inr ⟨z, h.2⟩)
          · rw [inn_cons, k4]
            constructor
            · rintro (h | ⟨_, h, h2⟩ | h)
              · exact .inl ⟨b0, rfl, h⟩
              · cases h; exact .inr ⟨by omega, aI x h2.1 h2.2⟩
              · exact .inr ⟨by omega, h.2⟩
            · rintro (⟨_, h, h2⟩ | h)
              · cases h; exact .inl h2
              · rcases Int.lt_or_le x q with z | z
                · refine .inr (.inl ⟨p, rfl, ?_, z⟩)
                  rcases Int.lt_or_le p x with y | y
                  · exact y
                  · rw [show x = p by omega] at h
                    exact absurd h.2 nIp
                · exact .inr (.inr ⟨z, h.2⟩)
/-! ### by merging in order: joined stretches -/
def mg : Iv → List Iv → List Iv
  | l, [] => [l]
  | l, s :: r => if s.1 ≤ l.2 then mg (l.1, max l.2 s.2) r else l :: mg s r
theorem mg_ok : ∀ (r : List Iv) (l : Iv), l.1 < l.2 → (∀ s ∈ r, s.1 < s.2 ∧ l.1 ≤ s.1) → r.Pairwise (fun a b => a.1 ≤ b.1) →
    Chn (mg l r) ∧ (∀ z ∈ mg l r, l.1 ≤ z.1) ∧ (∀ x, cell (mg l r) x ↔ (l.1 ≤ x ∧ x < l.2) ∨ cell r x) ∧ (∀ x, inn (mg l r) x ↔ cell (mg l r) x ∧ cell (mg l r) (x - 1))
  | [], l, hl, _, _ => by
    have e : mg l [] = [l] := rfl
    rw [e]
    refine ⟨⟨fun z h => by rw [List.mem_singleton.mp h]; exact hl, List.pairwise_singleton _ _⟩, fun z h => by rw [List.mem_singleton.mp h]; exact Int.le_refl _, fun x => cell_cons, fun x => ?_⟩
    rw [inn_cons, cell_cons, cell_cons]
    have a := @inn_nil x
    have b := @cell_nil x
    have c := @cell_nil (x - 1)
    constructor
    · rintro (h | h)
      · exact ⟨.inl (by omega), .inl (by omega)⟩
      · exact absurd h a
    · rintro ⟨h1 | h1, h2 | h2⟩
      · exact .inl (by omega)
      · exact absurd h2 c
      · exact absurd h1 b
      · exact absurd h1 b
  | s :: r, l, hl, hr, hp => by
    obtain ⟨s1, s2⟩ := hr s (List.mem_cons_self ..)
    obtain ⟨p1, p2⟩ := List.pairwise_cons.mp hp
    by_cases c : s.1 ≤ l.2
    · have e : mg l (s :: r) = mg (l.1, max l.2 s.2) r := by
        show (if s.1 ≤ l.2 then _ else _) = _
        rw [if_pos c]
      rw [e]
      obtain ⟨k1, k2, k3, k4⟩ := mg_ok r (l.1, max l.2 s.2) (show l.1 < max l.2 s.2 by omega) (fun z hz => ⟨(hr z (List.mem_cons_of_mem _ hz)).1, (hr z (List.mem_cons_of_mem _ hz)).2⟩) p2
      refine ⟨k1, k2, fun x => ?_, k4⟩
      rw [k3, cell_cons, ← or_assoc]
      refine or_congr ⟨fun h => ?_, fun h => ?_⟩ Iff.rfl
      · have h1 : l.1 ≤ x := h.1
        have h2 : x < max l.2 s.2 := h.2
        rcases Int.lt_or_le x l.2 with z | z
        · exact .inl ⟨h1, z⟩
        · exact .inr (by omega)
      · show l.1 ≤ x ∧ x < max l.2 s.2
        rcases h with h | h <;> omega
    · have e : mg l (s :: r) = l :: mg s r := by
        show (if s.1 ≤ l.2 then _ else _) = _
        rw [if_neg c]
      rw [e]
      obtain ⟨k1, k2, k3, k4⟩ := mg_ok r s s1 (fun z hz => ⟨(hr z (List.mem_cons_of_mem _ hz)).1, p1 z hz⟩) p2
      have lo : ∀ x, cell (mg s r) x → s.1 ≤ x := fun x ⟨z, hz, h⟩ => Int.le_trans (k2 z hz) h.1
      refine ⟨⟨fun z hz => ?_, List.pairwise_cons.mpr ⟨fun z hz => by have := k2 z hz; omega, k1.2⟩⟩, fun z hz => ?_, fun x => ?_, fun x => ?_⟩
      · rcases List.mem_cons.mp hz with rfl | hz
        · exact hl
        · exact k1.1 z hz
      · rcases List.mem_cons.mp hz with rfl | hz
        · exact Int.le_refl _
        · have := k2 z hz; omega
      · rw [cell_cons, k3, cell_cons]
      · rw [inn_cons, cell_cons, cell_cons, k4]
        have a := lo x
        have b := lo (x - 1)
        constructor
        · rintro (h | h)
          · exact ⟨.inl (by omega), .inl (by omega)⟩
          · exact ⟨.inr h.1, .inr h.2⟩
        · rintro ⟨h1 | h1, h2 | h2⟩
          · exact .inl (by omega)
          · have := b h2; omega
          · have := a h1; omega
          · exact .inr ⟨h1, h2⟩
/-! ### by merging in order: settled picks -/
def Jn (l s : Iv) : Prop := s.1 < l.2 ∨ (s.1 = l.2 ∧ (l.1 = l.2 ∨ s.1 = s.2))
instance (l s : Iv) : Decidable (Jn l s) := by unfold Jn; infer_instance
def Sep (a b : Iv) : Prop := a.2 < b.1 ∨ (a.2 = b.1 ∧ a.1 < a.2 ∧ b.1 < b.2)
variable {α : Type}
def sg (f : α → Iv) : Iv × List α → List α → List (Iv × List α)
  | l, [] => [l]
  | l, a :: r => if Jn l.1 (f a) then sg f ((l.1.1, max l.1.2 (f a).2), l.2 ++ [a]) r else l :: sg f (f a, [a]) r
/-- a group with its picks: it is as long as they say -/
structure Grp (f : α → Iv) (g : Iv × List α) : Prop where
  le : g.1.1 ≤ g.1.2
  sub : ∀ a ∈ g.2, g.1.1 ≤ (f a).1 ∧ (f a).2 ≤ g.1.2
  cell : ∀ x, g.1.1 ≤ x → x < g.1.2 → ∃ a ∈ g.2, (f a).1 ≤ x ∧ x < (f a).2
  inn : ∀ x, g.1.1 < x → x < g.1.2 → ∃ a ∈ g.2, (f a).1 < x ∧ x < (f a).2
  ne : g.1.1 = g.1.2 → ∃ a ∈ g.2, f a = g.1
theorem Grp.one {f : α → Iv} {a : α} (h : (f a).1 ≤ (f a).2) : Grp f (f a, [a]) where
  le := h
  sub := fun b hb => by rw [List.mem_singleton.mp hb]; exact ⟨Int.le_refl _, Int.le_refl _⟩
  cell := fun x h1 h2 => ⟨a, List.mem_singleton.mpr rfl, h1, h2⟩
  inn := fun x h1 h2 => ⟨a, List.mem_singleton.mpr rfl, h1, h2⟩
  ne := fun _ => ⟨a, List.mem_singleton.mpr rfl, rfl⟩
theorem Grp.add {f : α → Iv} {l : Iv × List α} {a : α} (g : Grp f l) (h : (f a).1 ≤ (f a).2) (lo : l.1.1 ≤ (f a).1) (j : Jn l.1 (f a)) : Grp f ((l.1.1, max l.1.2 (f a).2), l.2 ++ [a]) where
  le := by have := g.le; show l.1.1 ≤ max l.1.2 (f a).2; omega
  sub := fun b hb => by
    show l.1.1 ≤ (f b).1 ∧ (f b).2 ≤ max l.1.2 (f a).2
    rcases List.mem_append.mp hb with hb | hb
    · have := g.sub b hb; omega
    · rw [List.mem_singleton.mp hb]; omega
  cell := fun x h1 h2 => by
    have h1 : l.1.1 ≤ x := h1
    have h2 : x < max l.1.2 (f a).2 := h2
    unfold Jn at j
    have := g.le
    rcases Int.lt_or_le x l.1.2 with z | z
    · obtain ⟨b, hb, h⟩ := g.cell x h1 z
      exact ⟨b, List.mem_append_left _ hb, h⟩
    · exact ⟨a, List.mem_append_right _ (List.mem_singleton.mpr rfl), by omega⟩
  inn := fun x h1 h2 => by
    have h1 : l.1.1 < x := h1
    have h2 : x < max l.1.2 (f a).2 := h2
    unfold Jn at j
    have := g.le
    rcases Int.lt_or_le x l.1.2 with z | z
    · obtain ⟨b, hb, h⟩ := g.inn x h1 z
      exact ⟨b, List.mem_append_left _ hb, h⟩
    · exact ⟨a, List.mem_append_right _ (List.mem_singleton.mpr rfl), by omega⟩
  ne := fun e => by
    have e : l.1.1 = max l.1.2 (f a).2 := e
    have := g.le
    obtain ⟨b, hb, h⟩ := g.ne (by omega)
    refine ⟨b, List.mem_append_left _ hb, ?_⟩
    rw [h]
    exact Prod.ext rfl (show l.1.2 = max l.1.2 (f a).2 by omega)
def Lx (a b : Iv) : Prop := a.1 < b.1 ∨ (a.1 = b.1 ∧ a.2 ≤ b.2)
theorem Lx.le {a b : Iv} (h : Lx a b) : a.1 ≤ b.1 := by unfold Lx at h; omega
theorem sg_ok (f : α → Iv) : ∀ (r : List α) (l : Iv × List α), Grp f l → (∀ a ∈ r, (f a).1 ≤ (f a).2 ∧ l.1.1 ≤ (f a).1) → r.Pairwise (fun a b => Lx (f a) (f b)) →
    (∀ g ∈ sg f l r, Grp f g ∧ l.1.1 ≤ g.1.1) ∧ (sg f l r).Pairwise (fun a b => Sep a.1 b.1) ∧ (∀ a, (∃ g ∈ sg f l r, a ∈ g.2) ↔ a ∈ l.2 ∨ a ∈ r)
  | [], l, hl, _, _ => by
    have e : sg f l [] = [l] := rfl
    rw [e]
    refine ⟨fun g h => by rw [List.mem_singleton.mp h]; exact ⟨hl, Int.le_refl _⟩, List.pairwise_singleton _ _, fun a => ⟨fun ⟨g, hg, h⟩ => .inl (by rw [← List.mem_singleton.mp hg]; exact h), ?_⟩⟩
    rintro (h | h)
    · exact ⟨l, List.mem_singleton.mpr rfl, h⟩
    · cases h
  | a :: r, l, hl, hr, hp => by
    obtain ⟨a1, a2⟩ := hr a (List.mem_cons_self ..)
    obtain ⟨p1, p2⟩ := List.pairwise_cons.mp hp
    have lle := hl.le
    by_cases c : Jn l.1 (f a)
    · have e : sg f l (a :: r) = sg f ((l.1.1, max l.1.2 (f a).2), l.2 ++ [a]) r := by
        show (if Jn l.1 (f a) then _ else _) = _
        rw [if_pos c]
      rw [e]
      obtain ⟨k1, k2, k3⟩ := sg_ok f r ((l.1.1, max l.1.2 (f a).2), l.2 ++ [a]) (hl.add a1 a2 c) (fun z hz => ⟨(hr z (List.mem_cons_of_mem _ hz)).1, (hr z (List.mem_cons_of_mem _ hz)).2⟩) p2
      refine ⟨k1, k2, fun b => ?_⟩
      rw [k3]
      show b ∈ l.2 ++ [a] ∨ b ∈ r ↔ _
      rw [List.mem_append, List.mem_singleton, List.mem_cons, or_assoc]
    · have e : sg f l (a :: r) = l :: sg f (f a, [a]) r := by
        show (if Jn l.1 (f a) then _ else _) = _
        rw [if_neg c]
      rw [e]
      obtain ⟨k1, k2, k3⟩ := sg_ok f r (f a, [a]) (Grp.one a1) (fun z hz => ⟨(hr z (List.mem_cons_of_mem _ hz)).1, (p1 z hz).le⟩) p2
      have lo : ∀ g ∈ sg f (f a, [a]) r, (f a).1 ≤ g.1.1 := fun g hg => (k1 g hg).2
      unfold Jn at c
      refine ⟨fun g hg => ?_, List.pairwise_cons.mpr ⟨fun g hg => ?_, k2⟩, fun b => ?_⟩
      · rcases List.mem_cons.mp hg with rfl | hg
        · exact ⟨hl, Int.le_refl _⟩
        · exact ⟨(k1 g hg).1, by have := lo g hg; omega⟩
      · have g1 := lo g hg
        have gg := (k1 g hg).1
        have gle := gg.le
        unfold Sep
        rcases Int.lt_or_le l.1.2 g.1.1 with z | z
        · exact .inl z
        · refine .inr ⟨by omega, by omega, ?_⟩
          rcases Int.lt_or_le g.1.1 g.1.2 with y | y
          · exact y
          · exfalso
            obtain ⟨b, hb, eb⟩ := gg.ne (by omega)
            rcases (k3 b).mp ⟨g, hg, hb⟩ with h | h
            · have h : b = a := List.mem_singleton.mp h
              rw [h] at eb
              rw [← eb] at y z
              omega
            · have := p1 b h
              unfold Lx at this
              rw [eb] at this
              omega
      · constructor
        · rintro ⟨g, hg, h⟩
          rcases List.mem_cons.mp hg with rfl | hg
          · exact .inl h
          · rcases (k3 b).mp ⟨g, hg, h⟩ with z | z
            · exact .inr (by rw [List.mem_singleton.mp z]; exact List.mem_cons_self ..)
            · exact .inr (List.mem_cons_of_mem _ z)
        · rintro (h | h)
          · exact ⟨l, List.mem_cons_self .., h⟩
          · obtain ⟨g, hg, z⟩ := (k3 b).mpr (by
              rcases List.mem_cons.mp h with rfl | h
              · exact .inl (List.mem_singleton.mpr rfl)
              · exact .inr h)
            exact ⟨g, List.mem_cons_of_mem _ hg, z⟩
/-- what is told of the groups of picks in order -/
structure Gs (f : α → Iv) (T : List α) (R : List (Iv × List α)) : Prop where
  grp : ∀ g ∈ R, Grp f g
  sep : R.Pairwise (fun a b => Sep a.1 b.1)
  mem : ∀ a, (∃ g ∈ R, a ∈ g.2) ↔ a ∈ T
theorem Gs.of {f : α → Iv} {a : α} {r : List α} (h1 : ∀ b ∈ a :: r, (f b).1 ≤ (f b).2) (h2 : (a :: r).Pairwise (fun a b => Lx (f a) (f b))) : Gs f (a :: r) (sg f (f a, [a]) r) := by
  obtain ⟨p1, p2⟩ := List.pairwise_cons.mp h2
  obtain ⟨k1, k2, k3⟩ := sg_ok f r (f a, [a]) (Grp.one (h1 a (List.mem_cons_self ..))) (fun b hb => ⟨h1 b (List.mem_cons_of_mem _ hb), (p1 b hb).le⟩) p2
  refine ⟨fun g hg => (k1 g hg).1, k2, fun b => ?_⟩
  rw [k3, List.mem_singleton, List.mem_cons]
section
variable {f : α → Iv} {T : List α} {R : List (Iv × List α)} (h : Gs f T R)
include h
theorem Gs.eq {g g' : Iv × List α} (hg : g ∈ R) (hg' : g' ∈ R) {x : Int} (h1 : g.1.1 ≤ x) (h2 : x < g.1.2) (h3 : g'.1.1 ≤ x) (h4 : x < g'.1.2) : g = g' := by
  obtain ⟨i, hi, ei⟩ := List.getElem_of_mem hg
  obtain ⟨j, hj, ej⟩ := List.getElem_of_mem hg'
  have p := List.pairwise_iff_getElem.mp h.sep
  rcases Nat.lt_trichotomy i j with c | c | c
  · have := p i j hi hj c
    rw [ei, ej] at this
    unfold Sep at this
    omega
  · subst c
    rw [← ei, ← ej]
  · have := p j i hj hi c
    rw [ei, ej] at this
    unfold Sep at this
    omega
/-- the groups with signs -/
theorem Gs.chn : Chn ((R.map Prod.fst).filter fun r => decide (r.1 < r.2)) := by
  refine ⟨fun r hr => of_decide_eq_true (List.mem_filter.mp hr).2, List.Pairwise.filter _ (List.pairwise_map.mpr (h.sep.imp fun {a b} z => ?_))⟩
  unfold Sep at z
  omega
theorem Gs.cells (x : Int) : cell ((R.map Prod.fst).filter fun r => decide (r.1 < r.2)) x ↔ cell (T.map f) x := by
  constructor
  · rintro ⟨r, hr, h1, h2⟩
    obtain ⟨g, hg, rfl⟩ := List.mem_map.mp (List.mem_filter.mp hr).1
    obtain ⟨a, ha, z⟩ := (h.grp g hg).cell x h1 h2
    exact ⟨f a, List.mem_map.mpr ⟨a, (h.mem a).mp ⟨g, hg, ha⟩, rfl⟩, z⟩
  · rintro ⟨r, hr, h1, h2⟩
    obtain ⟨a, ha, rfl⟩ := List.mem_map.mp hr
    obtain ⟨g, hg, hag⟩ := (h.mem a).mpr ha
    have := (h.grp g hg).sub a hag
    exact ⟨g.1, List.mem_filter.mpr ⟨List.mem_map.mpr ⟨g, hg, rfl⟩, decide_eq_true (by omega)⟩, by omega, by omega⟩
theorem Gs.inns (x : Int) : inn ((R.map Prod.fst).filter fun r => decide (r.1 < r.2)) x ↔ inn (T.map f) x := by
  constructor
  · rintro ⟨r, hr, h1, h2⟩
    obtain ⟨g, hg, rfl⟩ := List.mem_map.mp (List.mem_filter.mp hr).1
    obtain ⟨a, ha, z⟩ := (h.grp g hg).inn x h1 h2
    exact ⟨f a, List.mem_map.mpr ⟨a, (h.mem a).mp ⟨g, hg, ha⟩, rfl⟩, z⟩
  · rintro ⟨r, hr, h1, h2⟩
    obtain ⟨a, ha, rfl⟩ := List.mem_map.mp hr
    obtain ⟨g, hg, hag⟩ := (h.mem a).mpr ha
    have := (h.grp g hg).sub a hag
    exact ⟨g.1, List.mem_filter.mpr ⟨List.mem_map.mpr ⟨g, hg, rfl⟩, decide_eq_true (by omega)⟩, by omega, by omega⟩
/-- the carets that stay -/
theorem Gs.carets (le : ∀ a ∈ T, (f a).1 ≤ (f a).2) (p : Int) : (p, p) ∈ R.map Prod.fst ↔ (∃ a ∈ T, f a = (p, p)) ∧ ∀ a ∈ T, (f a).1 < (f a).2 → ¬ ((f a).1 ≤ p ∧ p ≤ (f a).2) := by
  constructor
  · intro hp
    obtain ⟨g, hg, e⟩ := List.mem_map.mp hp
    have e1 : g.1.1 = p := by rw [e]
    have e2 : g.1.2 = p := by rw [e]
    refine ⟨?_, fun a ha lt z => ?_⟩
    · obtain ⟨a, ha, ea⟩ := (h.grp g hg).ne (by omega)
      exact ⟨a, (h.mem a).mp ⟨g, hg, ha⟩, by rw [ea, e]⟩
    · obtain ⟨g', hg', ha'⟩ := (h.mem a).mpr ha
      have s := (h.grp g' hg').sub a ha'
      obtain ⟨i, hi, ei⟩ := List.getElem_of_mem hg
      obtain ⟨j, hj, ej⟩ := List.getElem_of_mem hg'
      have pw := List.pairwise_iff_getElem.mp h.sep
      rcases Nat.lt_trichotomy i j with c | c | c
      · have := pw i j hi hj c
        rw [ei, ej] at this
        unfold Sep at this
        omega
      · subst c
        have : g = g' := by rw [← ei, ← ej]
        subst this
        omega
      · have := pw j i hj hi c
        rw [ei, ej] at this
        unfold Sep at this
        omega
  · rintro ⟨⟨a, ha, ea⟩, nt⟩
    obtain ⟨g, hg, hag⟩ := (h.mem a).mpr ha
    have s := (h.grp g hg).sub a hag
    rw [ea] at s
    have gle := (h.grp g hg).le
    rcases Int.lt_or_le g.1.1 g.1.2 with c | c
    · exfalso
      rcases Int.lt_or_le p g.1.2 with z | z
      · obtain ⟨b, hb, z1, z2⟩ := (h.grp g hg).cell p s.1 z
        exact nt b ((h.mem b).mp ⟨g, hg, hb⟩) (by omega) ⟨z1, by omega⟩
      · obtain ⟨b, hb, z1, z2⟩ := (h.grp g hg).cell (p - 1) (by have := s.2; omega) (by have := s.2; omega)
        exact nt b ((h.mem b).mp ⟨g, hg, hb⟩) (by omega) ⟨by omega, by omega⟩
    · refine List.mem_map.mpr ⟨g, hg, Prod.ext ?_ ?_⟩
      · have a1 := s.1
        have a2 := s.2
        show g.1.1 = p
        have a1 : g.1.1 ≤ p := a1
        have a2 : p ≤ g.1.2 := a2
        omega
      · have a1 : g.1.1 ≤ p := s.1
        have a2 : p ≤ g.1.2 := s.2
        show g.1.2 = p
        omega
/-- whose picks are those of a group: all picks with signs that lie within it -/
theorem Gs.whose {g : Iv × List α} (hg : g ∈ R) {a : α} (ha : a ∈ T) (lt : (f a).1 < (f a).2) : a ∈ g.2 ↔ g.1.1 ≤ (f a).1 ∧ (f a).2 ≤ g.1.2 ∧ a ∈ g.2 := ⟨fun z => ⟨((h.grp g hg).sub a z).1, ((h.grp g hg).sub a z).2, z⟩, fun z => z.2.2⟩
theorem Gs.within {g : Iv × List α} (hg : g ∈ R) {a : α} (ha : a ∈ T) (lt : (f a).1 < (f a).2) (w : g.1.1 ≤ (f a).1 ∧ (f a).2 ≤ g.1.2) : a ∈ g.2 := by
  obtain ⟨g', hg', hag⟩ := (h.mem a).mpr ha
  have s := (h.grp g' hg').sub a hag
  have := h.eq hg hg' (x := (f a).1) (by omega) (by omega) (by omega) (by omega)
  rw [this]
  exact hag
end
/-! ### the ends of stretches, and the law's runs -/
def cov (st : List Iv) (p q : Int) : Bool := st.any fun s => decide (s.1 ≤ p) && decide (q ≤ s.2)
def wth (st : List Iv) (p : Int) : Bool := st.any fun s => decide (s.1 < p) && decide (p < s.2)
theorem cov_iff {st : List Iv} {p q : Int} : cov st p q = true ↔ ∃ s ∈ st, s.1 ≤ p ∧ q ≤ s.2 := by
  unfold cov
  rw [List.any_eq_true]
  refine exists_congr fun s => and_congr_right fun _ => ?_
  rw [Bool.and_eq_true, decide_eq_true_iff, decide_eq_true_iff]
theorem wth_iff {st : List Iv} {p : Int} : wth st p = true ↔ inn st p := by
  unfold wth inn
  rw [List.any_eq_true]
  refine exists_congr fun s => and_congr_right fun _ => ?_
  rw [Bool.and_eq_true, decide_eq_true_iff, decide_eq_true_iff]
section
variable {st : List Iv}
theorem seg_cell {p q : Int} (h : ∀ s ∈ st, (s.1 ≤ p ∨ q ≤ s.1) ∧ (s.2 ≤ p ∨ q ≤ s.2)) {x : Int} (h1 : p ≤ x) (h2 : x < q) : cell st x ↔ cov st p q = true := by
  rw [cov_iff]
  constructor
  · rintro ⟨s, hs, z⟩
    have := h s hs
    exact ⟨s, hs, by omega⟩
  · rintro ⟨s, hs, z⟩
    exact ⟨s, hs, by omega⟩
theorem seg_inn {p q : Int} (h : ∀ s ∈ st, (s.1 ≤ p ∨ q ≤ s.1) ∧ (s.2 ≤ p ∨ q ≤ s.2)) {x : Int} (h1 : p < x) (h2 : x < q) : inn st x ↔ cov st p q = true := by
  rw [cov_iff]
  constructor
  · rintro ⟨s, hs, z⟩
    have := h s hs
    exact ⟨s, hs, by omega⟩
  · rintro ⟨s, hs, z⟩
    exact ⟨s, hs, by omega⟩
theorem ends_sp {I : Int → Prop} (hI : ∀ p, I p → cell st p ∧ cell st (p - 1)) (hS : ∀ p q, (∀ s ∈ st, (s.1 ≤ p ∨ q ≤ s.1) ∧ (s.2 ≤ p ∨ q ≤ s.2)) → ∀ x, p < x → x < q → (I x ↔ cov st p q = true)) :
    ∀ (rest : List Int) (p : Int), (p :: rest).Pairwise (· < ·) → (∀ s ∈ st, (s.1 ≤ p ∨ s.1 ∈ rest) ∧ (s.2 ≤ p ∨ s.2 ∈ rest)) → Sp (cov st) (cell st) I (p :: rest)
  | [], p, _, h => by
    have no : ∀ x, p ≤ x → ¬ cell st x := fun x hx ⟨s, hs, z⟩ => by
      rcases (h s hs).2 with y | y
      · omega
      · cases y
    exact .one no fun x hx z => no x (by omega) (hI x z).1
  | q :: rest, p, pw, h => by
    obtain ⟨p1, p2⟩ := List.pairwise_cons.mp pw
    have pq := p1 q (List.mem_cons_self ..)
    obtain ⟨q1, _⟩ := List.pairwise_cons.mp p2
    have up : ∀ v, v ∈ q :: rest → q ≤ v := fun v hv => by
      rcases List.mem_cons.mp hv with rfl | hv
      · exact Int.le_refl _
      · have := q1 v hv; omega
    have gap : ∀ s ∈ st, (s.1 ≤ p ∨ q ≤ s.1) ∧ (s.2 ≤ p ∨ q ≤ s.2) := fun s hs => ⟨(h s hs).1.imp id (up _), (h s hs).2.imp id (up _)⟩
    refine .cons pq (fun x h1 h2 => seg_cell gap h1 h2) (hS p q gap) (ends_sp hI hS rest q p2 fun s hs => ?_)
    have k : ∀ v, v ≤ p ∨ v ∈ q :: rest → v ≤ q ∨ v ∈ rest := fun v hv => by
      rcases hv with z | z
      · exact .inl (by omega)
      · rcases List.mem_cons.mp z with rfl | z
        · exact .inl (Int.le_refl _)
        · exact .inr z
    exact ⟨k _ (h s hs).1, k _ (h s hs).2⟩
/-- the law's runs of stretches with signs: parted or not -/
def runs (st : List Iv) (parted : Bool) (ends : List Int) : List Iv := go (fun p => !parted || wth st p) (cov st) ends none
/-- a row of ends: in order, each once, all of them and nothing else -/
structure Ends (st : List Iv) (l : List Int) : Prop where
  pw : l.Pairwise (· < ·)
  mem : ∀ v, v ∈ l ↔ ∃ s ∈ st, v = s.1 ∨ v = s.2
theorem runs_parted (ne : ∀ s ∈ st, s.1 < s.2) {l : List Int} (h : Ends st l) : Chn (runs st true l) ∧ (∀ x, cell (runs st true l) x ↔ cell st x) ∧ ∀ x, inn (runs st true l) x ↔ inn st x := by
  have cI : ∀ p, inn st p → cell st p ∧ cell st (p - 1) := fun p ⟨s, hs, z⟩ => ⟨⟨s, hs, by omega⟩, ⟨s, hs, by omega⟩⟩
  cases l with
  | nil =>
    have e : st = [] := by
      cases st with
      | nil => rfl
      | cons s st =>
        have := (h.mem s.1).mpr ⟨s, List.mem_cons_self .., .inl rfl⟩
        cases this
    rw [e]
    exact ⟨⟨fun r hr => absurd hr List.not_mem_nil, List.Pairwise.nil⟩, fun x => Iff.rfl, fun x => Iff.rfl⟩
  | cons p rest =>
    have low : ∀ s ∈ st, p ≤ s.1 := fun s hs => by
      rcases List.mem_cons.mp ((h.mem s.1).mpr ⟨s, hs, .inl rfl⟩) with z | z
      · omega
      · have := (List.pairwise_cons.mp h.pw).1 _ z; omega
    have sp := ends_sp cI (fun p q g x h1 h2 => seg_inn g h1 h2) rest p h.pw fun s hs => by
      have k : ∀ v, v ∈ p :: rest → v ≤ p ∨ v ∈ rest := fun v hv => by
        rcases List.mem_cons.mp hv with rfl | z
        · exact .inl (Int.le_refl _)
        · exact .inr z
      exact ⟨k _ ((h.mem _).mpr ⟨s, hs, .inl rfl⟩), k _ ((h.mem _).mpr ⟨s, hs, .inr rfl⟩)⟩
    obtain ⟨k1, _, k3, k4⟩ := go_ok (J := fun p => !true || wth st p) cI (fun q _ _ => by
      show inn st q ↔ (!true || wth st q) = true
      rw [← wth_iff]
      simp) sp none (fun _ z => nomatch z) (fun _ ⟨s, hs, z⟩ => by have := low s hs; omega)
    refine ⟨k1, fun x => ?_, fun x => ?_⟩
    · rw [show cell (runs st true (p :: rest)) x ↔ _ from k3 x]
      constructor
      · rintro (⟨_, z, _⟩ | z)
        · cases z
        · exact z.2
      · intro z
        obtain ⟨s, hs, y⟩ := id z
        exact .inr ⟨by have := low s hs; omega, z⟩
    · rw [show inn (runs st true (p :: rest)) x ↔ _ from k4 x]
      constructor
      · rintro (⟨_, z, _⟩ | z)
        · cases z
        · exact z.2
      · intro z
        obtain ⟨s, hs, y⟩ := id z
        exact .inr ⟨by have := low s hs; omega, z⟩
theorem runs_whole (ne : ∀ s ∈ st, s.1 < s.2) {l : List Int} (h : Ends st l) : Chn (runs st false l) ∧ (∀ x, cell (runs st false l) x ↔ cell st x) ∧ ∀ x, inn (runs st false l) x ↔ cell st x ∧ cell st (x - 1) := by
  have cI : ∀ p, (cell st p ∧ cell st (p - 1)) → cell st p ∧ cell st (p - 1) := fun p z => z
  cases l with
  | nil =>
    have e : st = [] := by
      cases st with
      | nil => rfl
      | cons s st =>
        have := (h.mem s.1).mpr ⟨s, List.mem_cons_self .., .inl rfl⟩
        cases this
    rw [e]
    exact ⟨⟨fun r hr => absurd hr List.not_mem_nil, List.Pairwise.nil⟩, fun x => Iff.rfl, fun x => ⟨fun z => absurd z inn_nil, fun z => absurd z.1 cell_nil⟩⟩
  | cons p rest =>
    have low : ∀ s ∈ st, p ≤ s.1 := fun s hs => by
      rcases List.mem_cons.mp ((h.mem s.1).mpr ⟨s, hs, .inl rfl⟩) with z | z
      · omega
      · have := (List.pairwise_cons.mp h.pw).1 _ z; omega
    have sp := ends_sp (I := fun x => cell st x ∧ cell st (x - 1)) cI (fun p q g x h1 h2 => by
      rw [seg_cell g (by omega : p ≤ x) h2, seg_cell g (by omega : p ≤ x - 1) (by omega)]
      exact ⟨fun z => z.1, fun z => ⟨z, z⟩⟩) rest p h.pw fun s hs => by
      have k : ∀ v, v ∈ p :: rest → v ≤ p ∨ v ∈ rest := fun v hv => by
        rcases List.mem_cons.mp hv with rfl | z
        · exact .inl (Int.le_refl _)
        · exact .inr z
      exact ⟨k _ ((h.mem _).mpr ⟨s, hs, .inl rfl⟩), k _ ((h.mem _).mpr ⟨s, hs, .inr rfl⟩)⟩
    obtain ⟨k1, _, k3, k4⟩ := go_ok (J := fun p => !false || wth st p) (I := fun x => cell st x ∧ cell st (x - 1)) cI (fun q a b => ⟨fun _ => rfl, fun _ => ⟨a, b⟩⟩) sp none (fun _ z => nomatch z) (fun _ ⟨_, s, hs, z⟩ => by have := low s hs; omega)
    refine ⟨k1, fun x => ?_, fun x => ?_⟩
    · rw [show cell (runs st false (p :: rest)) x ↔ _ from k3 x]
      constructor
      · rintro (⟨_, z, _⟩ | z)
        · cases z
        · exact z.2
      · intro z
        obtain ⟨s, hs, y⟩ := id z
        exact .inr ⟨by have := low s hs; omega, z⟩
    · rw [show inn (runs st false (p :: rest)) x ↔ _ from k4 x]
      constructor
      · rintro (⟨_, z, _⟩ | z)
        · cases z
        · exact z.2
      · intro z
        obtain ⟨s, hs, y⟩ := id z.2
        exact .inr ⟨by have := low s hs; omega, z⟩
/-- joined stretches are the law's whole runs -/
theorem mg_runs {s : Iv} {r : List Iv} (ne : ∀ z ∈ s :: r, z.1 < z.2) (pw : (s :: r).Pairwise (fun a b => a.1 ≤ b.1)) {st : List Iv} (same : ∀ z, z ∈ st ↔ z ∈ s :: r) {l : List Int} (h : Ends st l) : mg s r = runs st false l := by
  obtain ⟨p1, p2⟩ := List.pairwise_cons.mp pw
  obtain ⟨a1, _, a3, a4⟩ := mg_ok r s (ne s (List.mem_cons_self ..)) (fun z hz => ⟨ne z (List.mem_cons_of_mem _ hz), p1 z hz⟩) p2
  obtain ⟨b1, b2, b3⟩ := runs_whole (fun z hz => ne z ((same z).mp hz)) h
  have sc : ∀ x, cell (mg s r) x ↔ cell st x := fun x => by
    rw [a3, ← cell_cons]
    unfold cell
    exact exists_congr fun z => and_congr_left fun _ => (same z).symm
  refine a1.uniq b1 (fun x => by rw [sc, b2]) fun x => ?_
  rw [a4, b3, sc, sc]
/-- settled picks with signs are the law's parted runs -/
theorem Gs.runs {α : Type} {f : α → Iv} {T : List α} {R : List (Iv × List α)} (g : Gs f T R) {st : List Iv} (same : ∀ z, z ∈ st ↔ z.1 < z.2 ∧ ∃ a ∈ T, f a = z) {l : List Int} (h : Ends st l) : ((R.map Prod.fst).filter fun r => decide (r.1 < r.2)) = Pk.runs st true l := by
  obtain ⟨b1, b2, b3⟩ := runs_parted (fun z hz => ((same z).mp hz).1) h
  refine g.chn.uniq b1 (fun x => ?_) fun x => ?_
  · rw [g.cells, b2]
    constructor
    · rintro ⟨z, hz, y⟩
      obtain ⟨a, ha, rfl⟩ := List.mem_map.mp hz
      exact ⟨f a, (same _).mpr ⟨by omega, a, ha, rfl⟩, y⟩
    · rintro ⟨z, hz, y⟩
      obtain ⟨_, a, ha, rfl⟩ := (same z).mp hz
      exact ⟨f a, List.mem_map.mpr ⟨a, ha, rfl⟩, y⟩
  · rw [g.inns, b3]
    constructor
    · rintro ⟨z, hz, y⟩
      obtain ⟨a, ha, rfl⟩ := List.mem_map.mp hz
      exact ⟨f a, (same _).mpr ⟨by omega, a, ha, rfl⟩, y⟩
    · rintro ⟨z, hz, y⟩
      obtain ⟨_, a, ha, rfl⟩ := (same z).mp hz
      exact ⟨f a, List.mem_map.mpr ⟨a, ha, rfl⟩, y⟩
end
/-! ### in order, each once -/
def SL (a b : Iv) : Prop := a.1 < b.1 ∨ (a.1 = b.1 ∧ a.2 < b.2)
theorem SL.irr {a : Iv} (h : SL a a) : False := by unfold SL at h; omega
theorem SL.asym {a b : Iv} (h : SL a b) (g : SL b a) : False := by unfold SL at h g; omega
theorem srt_uniq {β : Type} {k : β → Iv} : ∀ {R S : List β}, R.Pairwise (fun a b => SL (k a) (k b)) → S.Pairwise (fun a b => SL (k a) (k b)) → (∀ x, x ∈ R ↔ x ∈ S) → R = S
  | [], S, _, _, h => by
    cases S with
    | nil => rfl
    | cons s S => exact absurd ((h s).mpr (List.mem_cons_self ..)) List.not_mem_nil
  | r :: R, [], _, _, h => absurd ((h r).mp (List.mem_cons_self ..)) List.not_mem_nil
  | r :: R, s :: S, hR, hS, h => by
    obtain ⟨r1, r2⟩ := List.pairwise_cons.mp hR
    obtain ⟨s1, s2⟩ := List.pairwise_cons.mp hS
    have e : r = s := by
      rcases List.mem_cons.mp ((h r).mp (List.mem_cons_self ..)) with z | z
      · exact z
      · rcases List.mem_cons.mp ((h s).mpr (List.mem_cons_self ..)) with y | y
        · exact y.symm
        · exact (SL.asym (s1 r z) (r1 s y)).elim
    subst e
    refine congrArg (r :: ·) (srt_uniq r2 s2 fun x => ⟨fun z => ?_, fun z => ?_⟩)
    · rcases List.mem_cons.mp ((h x).mp (List.mem_cons_of_mem _ z)) with y | y
      · exact (SL.irr (by have := r1 x z; rw [y] at this; exact this)).elim
      · exact y
    · rcases List.mem_cons.mp ((h x).mpr (List.mem_cons_of_mem _ z)) with y | y
      · exact (SL.irr (by have := s1 x z; rw [y] at this; exact this)).elim
      · exact y
section
variable {α : Type} {f : α → Iv} {T : List α} {R : List (Iv × List α)} (h : Gs f T R)
include h
theorem Gs.srt : R.Pairwise (fun a b => SL a.1 b.1) := by
  refine List.Pairwise.imp_of_mem (fun {a b} ha hb z => ?_) h.sep
  have := (h.grp a ha).le
  unfold Sep at z
  unfold SL
  omega
/-- the stretches of the groups, told by the picks alone -/
theorem Gs.iv (le : ∀ a ∈ T, (f a).1 ≤ (f a).2) {T' : List α} {R' : List (Iv × List α)} (h' : Gs f T' R') (same : ∀ a, a ∈ T ↔ a ∈ T') : R.map Prod.fst = R'.map Prod.fst := by
  have le' : ∀ a ∈ T', (f a).1 ≤ (f a).2 := fun a ha => le a ((same a).mpr ha)
  have e := h.chn.uniq h'.chn (fun x => by
    rw [h.cells, h'.cells]
    unfold cell
    exact exists_congr fun z => and_congr_left fun _ => by rw [List.mem_map, List.mem_map]; exact exists_congr fun a => and_congr_left fun _ => same a) fun x => by
    rw [h.inns, h'.inns]
    unfold inn
    exact exists_congr fun z => and_congr_left fun _ => by rw [List.mem_map, List.mem_map]; exact exists_congr fun a => and_congr_left fun _ => same a
  refine srt_uniq (k := id) (List.pairwise_map.mpr h.srt) (List.pairwise_map.mpr h'.srt) fun x => ?_
  have low : ∀ {R : List (Iv × List α)} {T : List α}, Gs f T R → ∀ {x : Iv}, x ∈ R.map Prod.fst → x.1 ≤ x.2 := fun g x hx => by
    obtain ⟨y, hy, rfl⟩ := List.mem_map.mp hx
    exact (g.grp y hy).le
  have key : x.1 < x.2 → (x ∈ R.map Prod.fst ↔ x ∈ R'.map Prod.fst) := fun lt => by
    have m : ∀ {l : List Iv}, x ∈ l.filter (fun r => decide (r.1 < r.2)) ↔ x ∈ l := fun {l} => by
      rw [List.mem_filter]
      exact ⟨fun z => z.1, fun z => ⟨z, decide_eq_true lt⟩⟩
    rw [← m (l := R.map Prod.fst), e, m]
  have car : ∀ p : Int, (p, p) ∈ R.map Prod.fst ↔ (p, p) ∈ R'.map Prod.fst := fun p => by
    rw [h.carets le, h'.carets le']
    refine and_congr (exists_congr fun a => and_congr_left fun _ => same a) ?_
    exact forall_congr' fun a => by rw [same a]
  rcases Int.lt_or_le x.1 x.2 with c | c
  · exact key c
  · constructor
    · intro hx
      have := low h hx
      have ex : x = (x.1, x.1) := Prod.ext rfl (by show x.2 = x.1; omega)
      rw [ex] at hx ⊢
      exact (car x.1).mp hx
    · intro hx
      have := low h' hx
      have ex : x = (x.1, x.1) := Prod.ext rfl (by show x.2 = x.1; omega)
      rw [ex] at hx ⊢
      exact (car x.1).mpr hx
end
/-! ### picks -/
def lh (a : Iv) : Iv := (min a.1 a.2, max a.1 a.2)
theorem lh_le (a : Iv) : (lh a).1 ≤ (lh a).2 := by show min a.1 a.2 ≤ max a.1 a.2; omega
/-- the pick of a group -/
def pk (g : Iv × List Iv) : Iv := if g.2.all fun a => decide (a.2 ≤ a.1) then (g.1.2, g.1.1) else g.1
/-- the pick of a stretch, by all picks within it -/
def pkT (T : List Iv) (r : Iv) : Iv := if (T.filter fun a => decide (a.1 ≠ a.2) && (decide (r.1 ≤ (lh a).1) && decide ((lh a).2 ≤ r.2))).all fun a => decide (a.2 < a.1) then (r.2, r.1) else r
theorem pk_pkT {T : List Iv} {R : List (Iv × List Iv)} (h : Gs lh T R) {g : Iv × List Iv} (hg : g ∈ R) : pk g = pkT T g.1 := by
  unfold pk pkT
  have gg := h.grp g hg
  have e : (g.2.all fun a => decide (a.2 ≤ a.1)) = ((T.filter fun a => decide (a.1 ≠ a.2) && (decide (g.1.1 ≤ (lh a).1) && decide ((lh a).2 ≤ g.1.2))).all fun a => decide (a.2 < a.1)) := by
    rw [Bool.eq_iff_iff, List.all_eq_true, List.all_eq_true]
    constructor
    · intro z a ha
      obtain ⟨aT, hw⟩ := List.mem_filter.mp ha
      rw [Bool.and_eq_true, Bool.and_eq_true, decide_eq_true_iff, decide_eq_true_iff, decide_eq_true_iff] at hw
      have lt : (lh a).1 < (lh a).2 := by show min a.1 a.2 < max a.1 a.2; have := hw.1; omega
      have := of_decide_eq_true (z a (h.within hg aT lt hw.2))
      exact decide_eq_true (by have := hw.1; omega)
    · intro z a ha
      by_cases c : a.1 = a.2
      · exact decide_eq_true (by omega)
      · have s := gg.sub a ha
        have := of_decide_eq_true (z a (List.mem_filter.mpr ⟨(h.mem a).mp ⟨g, hg, ha⟩, by rw [decide_eq_true c, decide_eq_true s.1, decide_eq_true s.2]; rfl⟩))
        exact decide_eq_true (by omega)
  rw [e]
/-- settled picks are told by the picks alone, in whatever order -/
theorem settled_same {T T' : List Iv} {R R' : List (Iv × List Iv)} (h : Gs lh T R) (h' : Gs lh T' R') (same : ∀ a, a ∈ T ↔ a ∈ T') : R.map pk = R'.map pk := by
  have e := h.iv (fun a _ => lh_le a) h' same
  have a1 : R.map pk = (R.map Prod.fst).map (pkT T) := by
    rw [List.map_map]
    exact List.map_congr_left fun g hg => pk_pkT h hg
  have a2 : R'.map pk = (R'.map Prod.fst).map (pkT T') := by
    rw [List.map_map]
    exact List.map_congr_left fun g hg => pk_pkT h' hg
  rw [a1, a2, e]
  refine List.map_congr_left fun r _ => ?_
  unfold pkT
  have : ((T.filter fun a => decide (a.1 ≠ a.2) && (decide (r.1 ≤ (lh a).1) && decide ((lh a).2 ≤ r.2))).all fun a => decide (a.2 < a.1)) = ((T'.filter fun a => decide (a.1 ≠ a.2) && (decide (r.1 ≤ (lh a).1) && decide ((lh a).2 ≤ r.2))).all fun a => decide (a.2 < a.1)) := by
    rw [Bool.eq_iff_iff, List.all_eq_true, List.all_eq_true]
    refine forall_congr' fun a => ?_
    rw [List.mem_filter, List.mem_filter, same a]
  rw [this]
/-- picks that are settled stay as they are -/
theorem sg_stay {β : Type} {f : β → Iv} : ∀ (r : List β) (a : β), (a :: r).Pairwise (fun x y => Sep (f x) (f y)) → sg f (f a, [a]) r = (a :: r).map fun x => (f x, [x])
  | [], a, _ => rfl
  | b :: r, a, h => by
    obtain ⟨h1, h2⟩ := List.pairwise_cons.mp h
    have s := h1 b (List.mem_cons_self ..)
    have n : ¬ Jn (f a) (f b) := by
      unfold Sep at s
      unfold Jn
      omega
    show (if Jn (f a) (f b) then _ else _) = _
    rw [if_neg n, sg_stay r b h2]
    rfl
theorem pk_one (a : Iv) : pk (lh a, [a]) = a := by
  unfold pk
  have e : ([a].all fun a => decide (a.2 ≤ a.1)) = decide (a.2 ≤ a.1) := by simp
  show (if ([a].all fun a => decide (a.2 ≤ a.1)) = true then ((lh a).2, (lh a).1) else lh a) = a
  rw [e]
  by_cases c : a.2 ≤ a.1
  · rw [if_pos (decide_eq_true c)]
    exact Prod.ext (by show max a.1 a.2 = a.1; omega) (by show min a.1 a.2 = a.2; omega)
  · rw [if_neg (by simpa using c)]
    exact Prod.ext (by show min a.1 a.2 = a.1; omega) (by show max a.1 a.2 = a.2; omega)
theorem lh_pk {g : Iv × List Iv} (h : g.1.1 ≤ g.1.2) : lh (pk g) = g.1 := by
  unfold pk
  split
  · exact Prod.ext (by show min g.1.2 g.1.1 = g.1.1; omega) (by show max g.1.2 g.1.1 = g.1.2; omega)
  · exact Prod.ext (by show min g.1.1 g.1.2 = g.1.1; omega) (by show max g.1.1 g.1.2 = g.1.2; omega)
theorem Gs.sepPk {T : List Iv} {R : List (Iv × List Iv)} (h : Gs lh T R) : (R.map pk).Pairwise (fun x y => Sep (lh x) (lh y)) := by
  rw [List.pairwise_map]
  refine List.Pairwise.imp_of_mem (fun {a b} ha hb z => ?_) h.sep
  rw [lh_pk (h.grp a ha).le, lh_pk (h.grp b hb).le]
  exact z
end Pk

/-! pairs of numbers; min and max of a pair -/
namespace Dk
open PySem PySem.Spec PyProof.Rows L2 PySem.SeqAt PySem.W
/-! min, max of a tuple of two numbers -/
section
variable {prog : Program} {w : World} {A : Around} {E : Value → Shared → Prop} {s : Shared}
theorem min_pair_at {l : Addr} {vs : Array Value} {as : List Addr} {a b : Int} {Q : Value → Shared → Prop} (hh : A.handled = none) (hl : s.heap.IsTuple l vs) (hr : ReadsAll s.heap vs.toList [.int a, .int b] as) (hu : A.units + 10 < cLine)
    (h : ∀ v h' tk, vs[if dataLt (.int b) (.int a) = true then 1 else 0]? = some v → (∀ b o, s.heap.get? b = some o → h'.get? b = some o) → Q v { s with heap := h', toks := tk }) :
    wpAny (model prog w) A (call (.builtin "min") [.ref l]) Q E s := by
  have hn : vs.size = 2 := readsAll_len hr
  have al : AlikeAll [PyData.int a, PyData.int b] := ⟨fun x hx y hy => by simp at hx hy; rcases hx with rfl | rfl <;> rcases hy with rfl | rfl <;> rfl, fun x hx => by simp at hx; rcases hx with rfl | rfl <;> exact fun z => nomatch z⟩
  refine call_min_walkH (iter_tupleW (A := A.in1) hh hl fun s₂ e W st hfp hw hk => ?_)
  refine ⟨_, _, _, _, _, _, _, s.heap, _, rfl, W, st, hfp, by omega, hw, hk, cmpIn_lt (A := A.in1) hr al (by show A.units + 1 + 0 < _; omega), fun v s' hP m => ?_⟩
  obtain ⟨h', tk, rfl, hk'⟩ := moved_old e rfl m
  rw [hn] at hP
  exact h v h' tk hP hk'
theorem max_pair_at {l : Addr} {vs : Array Value} {as : List Addr} {a b : Int} {Q : Value → Shared → Prop} (hh : A.handled = none) (hl : s.heap.IsTuple l vs) (hr : ReadsAll s.heap vs.toList [.int a, .int b] as) (hu : A.units + 10 < cLine)
    (h : ∀ v h' tk, vs[if dataLt (.int a) (.int b) = true then 1 else 0]? = some v → (∀ b o, s.heap.get? b = some o → h'.get? b = some o) → Q v { s with heap := h', toks := tk }) :
    wpAny (model prog w) A (call (.builtin "max") [.ref l]) Q E s := by
  have hn : vs.size = 2 := readsAll_len hr
  have al : AlikeAll [PyData.int a, PyData.int b] := ⟨fun x hx y hy => by simp at hx hy; rcases hx with rfl | rfl <;> rcases hy with rfl | rfl <;> rfl, fun x hx => by simp at hx; rcases hx with rfl | rfl <;> exact fun z => nomatch z⟩
  refine call_max_walkH (iter_tupleW (A := A.in1) hh hl fun s₂ e W st hfp hw hk => ?_)
  refine ⟨_, _, _, _, _, _, _, s.heap, _, rfl, W, st, hfp, by omega, hw, hk, cmpIn_gt (A := A.in1) hr al (by show A.units + 1 + 0 < _; omega), fun v s' hP m => ?_⟩
  obtain ⟨h', tk, rfl, hk'⟩ := moved_old e rfl m
  rw [hn] at hP
  exact h v h' tk hP hk'
end
def rMinP (K : PySem.W.Frag) : List V → Hp → VK → Prop := fun vs H Q => ∃ (p : Addr) (a b : Int), vs = [.ref p] ∧ SqT K H p [.int a, .int b] ∧ Q (.int (min a b)) H
def rMaxP (K : PySem.W.Frag) : List V → Hp → VK → Prop := fun vs H Q => ∃ (p : Addr) (a b : Int), vs = [.ref p] ∧ SqT K H p [.int a, .int b] ∧ Q (.int (max a b)) H
theorem call_minP {X : Cx} (hc : X.calm = true) (hu : X.A.units + 65 < cLine) : CallR X (.builtin "min") (rMinP X.K) := by
  intro pins s σ H vs us Q I r h
  obtain ⟨p, a, b, rfl, hp, q⟩ := h
  rw [Vals.ref1 r]
  obtain ⟨its, rv, pt, _⟩ := I.tuple hp
  obtain ⟨as, hr⟩ : ∃ as, ReadsAll s.heap its [.int a, .int b] as := dpall_reads I (.cons (.int a) (.cons (.int b) .nil)) rv
  refine min_pair_at (I.ok.hd hc) (show s.heap.IsTuple p its.toArray from pt) (by simpa using hr) (by omega) fun v h' tk hv k => ?_
  obtain ⟨x, hx, rx⟩ := Zp.vals_at rv (by simpa using hv)
  refine ⟨x, H, I.kept k, rx, ?_⟩
  rw [PySem.W.dataLt_int] at hx
  by_cases c : b < a
  · rw [if_pos (decide_eq_true c)] at hx
    cases hx
    rw [show min a b = b by omega] at q
    exact q
  · rw [if_neg (by simpa using c)] at hx
    cases hx
    rw [show min a b = a by omega] at q
    exact q
theorem call_maxP {X : Cx} (hc : X.calm = true) (hu : X.A.units + 65 < cLine) : CallR X (.builtin "max") (rMaxP X.K) := by
  intro pins s σ H vs us Q I r h
  obtain ⟨p, a, b, rfl, hp, q⟩ := h
  rw [Vals.ref1 r]
  obtain ⟨its, rv, pt, _⟩ := I.tuple hp
  obtain ⟨as, hr⟩ : ∃ as, ReadsAll s.heap its [.int a, .int b] as := dpall_reads I (.cons (.int a) (.cons (.int b) .nil)) rv
  refine max_pair_at (I.ok.hd hc) (show s.heap.IsTuple p its.toArray from pt) (by simpa using hr) (by omega) fun v h' tk hv k => ?_
  obtain ⟨x, hx, rx⟩ := Zp.vals_at rv (by simpa using hv)
  refine ⟨x, H, I.kept k, rx, ?_⟩
  rw [PySem.W.dataLt_int] at hx
  by_cases c : a < b
  · rw [if_pos (decide_eq_true c)] at hx
    cases hx
    rw [show max a b = b by omega] at q
    exact q
  · rw [if_neg (by simpa using c)] at hx
    cases hx
    rw [show max a b = a by omega] at q
    exact q
theorem k_minP {X : Cx} {K : PySem.W.Frag} (h : X.K = K) (hc : X.calm = true) (hu : X.A.units + 65 < cLine) : CallR X (.builtin "min") (rMinP K) := h ▸ call_minP hc hu
theorem k_maxP {X : Cx} {K : PySem.W.Frag} (h : X.K = K) (hc : X.calm = true) (hu : X.A.units + 65 < cLine) : CallR X (.builtin "max") (rMaxP K) := h ▸ call_maxP hc hu
theorem r_continue {σ : L2.St} {H : Hp} {D : Ends} (q : D.ct σ H) : tCont D σ H := q
/-! pairs -/
abbrev Iv := Pk.Iv
def PrV (H : Hp) (v : V) (x : Iv) : Prop := ∃ p : Addr, v = .ref p ∧ H p = some (.tup [.int x.1, .int x.2])
instance : Imm PrV := ⟨fun t h => h.imp fun p z => ⟨z.1, t _ _ z.2⟩⟩
abbrev PrL (H : Hp) : List V → List Iv → Prop := P2 (PrV H)
theorem prl_imm {H H' : Hp} {xs : List V} {l : List Iv} (t : Tk H H') (h : PrL H xs l) : PrL H' xs l := p2_imm t h
section
variable {K : PySem.W.Frag} {σ : L2.St} {H H' : Hp} {Q : VK} {v : V} {x : Iv} {N : L2.St → Hp → Prop} {t : TGs}
theorem r_minP (h : PrV H v x) (q : Q (.int (min x.1 x.2)) H) : rMinP K [v] H Q := by
  obtain ⟨p, rfl, hp⟩ := h
  exact ⟨p, _, _, rfl, sqT hp, q⟩
theorem r_maxP (h : PrV H v x) (q : Q (.int (max x.1 x.2)) H) : rMaxP K [v] H Q := by
  obtain ⟨p, rfl, hp⟩ := h
  exact ⟨p, _, _, rfl, sqT hp, q⟩
theorem r_gPr (h : PrV H v x) (k : t [.int x.1, .int x.2] σ H N) : gTup K 2 t v σ H N := by
  obtain ⟨p, rfl, hp⟩ := h
  exact r_gtup (sqT hp) rfl k
theorem r_ixPr0 (h : PrV H v x) (q : Q (.int x.1) H) : rIx K v (.int 0) H Q := by
  obtain ⟨p, rfl, hp⟩ := h
  exact r_ixT (sqT hp) (atI_nat (j := 0) rfl) q
theorem r_ixPr1 (h : PrV H v x) (q : Q (.int x.2) H) : rIx K v (.int 1) H Q := by
  obtain ⟨p, rfl, hp⟩ := h
  exact r_ixT (sqT hp) (atI_nat (j := 1) rfl) q
/-- a new pair: H2 is the heap with it -/
theorem r_mkPr {a b : Int} {P : V → Hp → Prop} (q : ∀ p H2, H p = none → H2 = upd H p (.tup [.int a, .int b]) → Ex H H2 → PrV H2 (.ref p) (a, b) → P (.ref p) H2) : [V.int a, V.int b].length ≤ sizeLine ∧ ∀ p, H p = none → P (.ref p) (upd H p (.tup [V.int a, V.int b])) :=
  r_small nsz fun p hp => q p _ hp rfl (Same.new (Same.refl H) hp) ⟨p, rfl, upd_same⟩
end
theorem newPr {H : Hp} {p : Addr} (hp : H p = none) (a b : Int) : ∃ H2, H2 = upd H p (.tup [.int a, .int b]) ∧ Ex H H2 ∧ PrV H2 (.ref p) (a, b) := ⟨_, rfl, Same.new (Same.refl H) hp, p, rfl, upd_same⟩
/-! sorted of pairs -/
theorem pk_key (H : Hp) : ∃ k : V → Int × Int, ∀ v x, PrV H v x → k v = x := by
  refine ⟨fun v => match v with
    | .ref p => (match H p with
      | some (.tup [.int a, .int b]) => (a, b)
      | _ => (0, 0))
    | _ => (0, 0), fun v x h => ?_⟩
  obtain ⟨p, rfl, hp⟩ := h
  show (match H p with
      | some (.tup [.int a, .int b]) => (a, b)
      | _ => (0, 0)) = x
  rw [hp]
/-- sorted(list of pairs): a new list, in order, with the same pairs -/
theorem r_sortPr {K : PySem.W.Frag} {H : Hp} {Q : VK} {p : Addr} {xs : List V} {l : List Iv} (hp : SqL K H p xs) (h : PrL H xs l)
    (q : ∀ ys m d, PrL H ys m → m.Pairwise Pk.Lx → m.Perm l → H d = none → Q (.ref d) (upd H d (.lst ys))) : rSortedPO K [.ref p] H Q := by
  obtain ⟨k, hk⟩ := pk_key H
  refine ⟨p, xs, k, rfl, hp, fun x hx => ?_, fun ys d h1 h2 hd => ?_⟩
  · obtain ⟨i, hi⟩ := List.mem_iff_getElem?.mp hx
    obtain ⟨y, hy, hr⟩ := h.get hi
    obtain ⟨t, rfl, ht⟩ := id hr
    have e := hk _ _ hr
    exact ⟨t, rfl, by rw [e]; exact ht⟩
  · have all : ∀ v ∈ ys, PrV H v (k v) := fun v hv => by
      obtain ⟨i, hi⟩ := List.mem_iff_getElem?.mp (h2.perm.mem_iff.mp hv)
      obtain ⟨y, hy, hr⟩ := h.get hi
      rw [hk _ _ hr]
      exact hr
    have e : l = xs.map k := by
      clear q h2 hp
      induction h with
      | nil => rfl
      | cons h t ih => rw [List.map_cons, hk _ _ h, ← ih]
    refine q ys (ys.map k) d ?_ ?_ ?_ hd
    · clear h1 h2
      induction ys with
      | nil => exact .nil
      | cons v r ih => exact .cons (all v (List.mem_cons_self ..)) (ih fun u hu => all u (List.mem_cons_of_mem _ hu))
    · refine List.pairwise_map.mpr (h1.imp fun {a b} g => ?_)
      have := SrtO.lexB_no.mp g
      unfold Pk.Lx
      omega
    · rw [e]
      exact h2.perm.map k
theorem r_bm0 {K : PySem.W.Frag} {T : String} {r : V → List V → Hp → VK → Prop} {to : TE} {σ : L2.St} {H : Hp} {Q : VK} (h : to σ H fun x H1 => tyV K T x H1 ∧ r x [] H1 Q) : tBM0 K T r to σ H Q := h
/-- xs.pop() -/
theorem r_popE {H : Hp} {Q : VK} {p : Addr} {xs : List V} {y : V} (h : H p = some (.lst (xs ++ [y]))) (q : Q y (upd H p (.lst xs))) : rPop (.ref p) [] H Q :=
  ⟨p, _, y, rfl, rfl, h, by rw [List.length_append, List.length_singleton, Nat.add_sub_cancel, List.getElem?_append_right (Nat.le_refl _), Nat.sub_self]; rfl, by rw [List.dropLast_concat]; exact q⟩
/-- over zip(tuple, list) of one length -/
theorem l_ZTL {K : PySem.W.Frag} {a b : Addr} {xs ys : List V} {g : TG} {tb : TS} {D : Ends} {σ : L2.St} {H : Hp} (hx0 : SqT K H a xs) (hy0 : SqL K H b ys) (hl : xs.length = ys.length) (Pv : Nat → L2.St → Hp → Prop) (p0 : Pv 0 σ H)
    (hk : ∀ i σ H, Pv i σ H → SqT K H a xs ∧ SqL K H b ys)
    (ht : ∀ i x y σ H p, xs[i]? = some x → ys[i]? = some y → Pv i σ H → H p = none → g (.ref p) σ (upd H p (.tup [x, y])) fun σ2 H2 => tb { D with nx := Pv (i + 1), ct := Pv (i + 1), bk := D.nx } σ2 H2)
    (hd : ∀ σ H, Pv xs.length σ H → D.nx σ H) :
    ∃ k1 k2 : Zp.Kd, [V.ref a, V.ref b] = [k1.v, k2.v] ∧ (∃ xs, k1.has K H xs) ∧ (∃ ys, k2.has K H ys) ∧ LoopW (Zp.ItzK K k1 k2) g tb D σ H := by
  refine ⟨.t a, .l b, rfl, ⟨xs, hx0⟩, ⟨ys, hy0⟩, for_it (Zp.walk_zipK (xs := xs) (ys := ys) (by first | rfl | exact hl)) Pv p0 (fun i σ H _ p => hk i σ H p) (fun i v σ H H' hi p yy => ?_) fun σ H p => hd σ H ?_⟩
  · obtain ⟨T, x, y, rfl, hT, rfl, ha, hb⟩ := yy
    exact ht i x y σ H T ha hb p hT
  · rw [hl, Nat.min_self] at p
    rw [hl]
    exact p
/-- sorted(set(xs)) -/
theorem r_setSort {K : PySem.W.Frag} {w : World} {σ : L2.St} {H : Hp} {Q : VK} {C : Addr} {ns : List Int} (hC : SqL K H C (ns.map V.int)) (hl : ns.length ≤ 4000)
    (k : ∀ (m : List Int) (d : Addr) (H' : Hp), Ex H H' → m.Pairwise (· < ·) → (∀ x, x ∈ m ↔ x ∈ ns) → H' d = some (.lst (m.map V.int)) → Q (.ref d) H') : Sx.rSetL K w [V.ref C] H (fun x H1 => tNil σ H1 fun xs H2 => Sx.rSortSU w (x :: xs) H2 Q) := by
  refine ⟨C, ns, rfl, hC, hl, fun p3 c hc hp3 => ⟨p3, _, c, rfl, upd_same, by omega, fun m d hpw hmem hd => ?_⟩⟩
  exact k m d _ ((Same.new (Same.refl H) hp3).trans (Same.new (Same.refl _) hd)) hpw (fun x => by rw [hmem, decide_eq_true_iff]) upd_same
/-! a comprehension over a text -/
theorem r_lcSo {tl : TE} {g : TG} {tt : TT} {te : TE} {vs : List Nat} {σ : L2.St} {H : Hp} {Q : VK} (h : tl σ H fun x H1 => ∃ z, x = .str z ∧ ∀ D, H1 D = none → ∃ W : Nat → Nat → Hp → Prop, (∃ m, W 0 m (upd H1 D (.lst []))) ∧ ∀ i m H, W i m H →
  ((Its z).stop i H ∧ Q (.ref D) H) ∨ ((Its z).go i H ∧ ∃ Nx : Hp → Prop, (∀ H', Nx H' → ∃ m', m' < m ∧ W (i + 1) m' H') ∧ ∀ x H', (Its z).yld i H x H' → g x (wipe σ vs) H' fun σ2 H2 => wipe σ2 vs = wipe σ vs ∧ tt σ2 H2 fun b H3 =>
    if b = true then te σ2 H3 fun y H4 => ∃ acc, H4 D = some (.lst acc) ∧ acc.length < sizeLine ∧ Nx (upd H4 D (.lst (acc ++ [y]))) else Nx H3)) : tLc (iStr tl) g tt te vs σ H Q := h
theorem l_lcS {z : Str} {g : TG} {tt : TT} {te : TE} {vs : List Nat} {σ : L2.St} {H1 : Hp} {Qd : Addr → Hp → Prop} (Pv : Addr → Nat → Hp → Prop) (h0 : ∀ D, H1 D = none → Pv D 0 (upd H1 D (.lst [])))
    (hs : ∀ D (i : Nat) c H, H1 D = none → (cs z)[i]? = some c → Pv D i H → g (.str ⟨#[c]⟩) (wipe σ vs) H fun σ2 H2 => wipe σ2 vs = wipe σ vs ∧ tt σ2 H2 fun b H3 =>
      if b = true then te σ2 H3 fun y H4 => ∃ acc, H4 D = some (.lst acc) ∧ acc.length < sizeLine ∧ Pv D (i + 1) (upd H4 D (.lst (acc ++ [y]))) else Pv D (i + 1) H3) (hd : ∀ D H, H1 D = none → Pv D z.length H → Qd D H) :
    ∃ y, V.str z = .str y ∧ ∀ D, H1 D = none → ∃ W : Nat → Nat → Hp → Prop, (∃ m, W 0 m (upd H1 D (.lst []))) ∧ ∀ i m H, W i m H →
  ((Its y).stop i H ∧ Qd D H) ∨ ((Its y).go i H ∧ ∃ Nx : Hp → Prop, (∀ H', Nx H' → ∃ m', m' < m ∧ W (i + 1) m' H') ∧ ∀ x H', (Its y).yld i H x H' → g x (wipe σ vs) H' fun σ2 H2 => wipe σ2 vs = wipe σ vs ∧ tt σ2 H2 fun b H3 =>
    if b = true then te σ2 H3 fun y H4 => ∃ acc, H4 D = some (.lst acc) ∧ acc.length < sizeLine ∧ Nx (upd H4 D (.lst (acc ++ [y]))) else Nx H3) :=
  ⟨z, rfl, fun D hD => lc_it walk_str (Pv D) (h0 D hD) (fun _ _ _ _ => trivial) (fun i x H H' hi p y => by
    obtain ⟨rfl, c, hc, rfl⟩ := y
    exact hs D i c _ hD (by rw [Array.getElem?_toList]; exact hc) p) fun H p => hd D H hD p⟩
theorem exm_self {K : PySem.W.Frag} {S : Addr} (h1 : PySem.W.subIn K (.ref S) (.type "BaseException") = some true) (h2 : PySem.W.isClsIn K S = true) (h3 : PySem.W.typeIn K (.ref S) = some (.type "type")) (h4 : PySem.W.subIn K (.ref S) (.ref S) = some true) :
    PySem.W.exmOne K (.ref S) (.ref S) = some true := by
  have e1 : (PySem.W.subIn K (.ref S) (.type "BaseException") == some true) = true := by rw [h1] <;> rfl
  have e2 : ((PySem.W.clsIn K S).isSome && PySem.W.typeIn K (.ref S) == some (.type "type")) = true := by
    have h2' : (PySem.W.clsIn K S).isSome = true := h2
    rw [h2', h3] <;> rfl
  show (if (PySem.W.subIn K (.ref S) (.type "BaseException") == some true) = true then (if ((PySem.W.clsIn K S).isSome && PySem.W.typeIn K (.ref S) == some (.type "type")) = true then PySem.W.subIn K (.ref S) (.ref S) else none) else none) = some true
  rw [if_pos e1, if_pos e2]
  exact h4
/-! a flow of draws: [state, count, pool] -/
def flow (M : Int) (f p : Addr) : Box where
  A := fun x => x = f ∨ x = p
  B := fun H => p ≠ f ∧ ∃ (z k : Int) (ns : List Int), H f = some (.lst [.int z, .int k, .ref p]) ∧ H p = some (.lst (ns.map V.int)) ∧ ns.length ≤ 63 ∧ 0 ≤ z ∧ z < M
  live := fun H h x a => by
    obtain ⟨_, k, z, ns, h1, h2, _⟩ := h
    rcases a with rfl | rfl
    · exact ⟨_, h1⟩
    · exact ⟨_, h2⟩
  keep := fun H H' h e => by
    obtain ⟨n, k, z, ns, h1, h2, h3⟩ := h
    exact ⟨n, k, z, ns, e _ _ (.inl rfl) h1, e _ _ (.inr rfl) h2, h3⟩
def spDrawsF (M : Int) (K : PySem.W.Frag) : Sp := fun vs H Q _ => ∃ (a : Addr) (ns : List Int), vs = [.ref a] ∧ SqL K H a (ns.map V.int) ∧ ns.length ≤ 63 ∧ ∀ f p H', Ex H H' → H f = none → H p = none → (flow M f p).B H' → Q (.ref f) H'
def spTakeF (M : Int) : Sp := fun vs H Q _ => ∃ (f p : Addr) (n : Int), vs = [.ref f, .int n] ∧ (flow M f p).B H ∧ 0 < n ∧ n < 1000000 ∧ ∀ (v : Nat) H', (v : Int) < n → Drw (flow M f p) H H' → Q (.int (v : Nat)) H'
theorem int_map {ns : List Int} {i : Nat} {x : V} (hx : (ns.map V.int)[i]? = some x) : ∃ c, ns[i]? = some c ∧ x = V.int c := by
  rw [List.getElem?_map] at hx
  cases e : ns[i]? with
  | none => rw [e] at hx; cases hx
  | some c => rw [e] at hx; exact ⟨c, rfl, (Option.some.inj hx).symm⟩
theorem cmul_s {i j : Int} (h1 : -(2 ^ 64) < j := by decide) (h2 : j < 2 ^ 64 := by decide) : CMul i j := .inr ⟨h1, h2⟩
end Dk

/-! what is entered at picks, without code -/
namespace Q46
open Pk
variable {β : Type}
/-! joined stretches, of any row in order -/
def jn : List Iv → List Iv
  | [] => []
  | s :: r => mg s r
theorem jn_ok {l : List Iv} (h : ∀ z ∈ l, z.1 < z.2) (pw : l.Pairwise Lx) : Chn (jn l) ∧ (∀ x, cell (jn l) x ↔ cell l x) ∧ ∀ x, inn (jn l) x ↔ cell l x ∧ cell l (x - 1) := by
  cases l with
  | nil => exact ⟨⟨(fun _ z => nomatch z), List.Pairwise.nil⟩, (fun _ => Iff.rfl), fun x => ⟨fun z => absurd z inn_nil, fun z => absurd z.1 cell_nil⟩⟩
  | cons s r =>
    obtain ⟨p1, p2⟩ := List.pairwise_cons.mp pw
    obtain ⟨h1, h2, h3, h4⟩ := mg_ok r s (h s (List.mem_cons_self ..)) (fun z hz => ⟨h z (List.mem_cons_of_mem _ hz), (p1 z hz).le⟩) (p2.imp fun g => g.le)
    have h5 : ∀ x, cell (mg s r) x ↔ cell (s :: r) x := fun x => (h3 x).trans cell_cons.symm
    exact ⟨h1, h5, fun x => by rw [← h5, ← h5]; exact h4 x⟩
/-- the step of the loop: what is found so far, and the rest -/
def At (l : List Iv) (i : Nat) (F : List Iv) : Prop := (i = 0 ∧ F = []) ∨ ∃ P z, F = P ++ [z] ∧ jn l = P ++ mg z (l.drop i)
theorem At.start {l : List Iv} : At l 0 [] := .inl ⟨rfl, rfl⟩
theorem at_first {l : List Iv} {s : Iv} (hs : l[0]? = some s) : At l 1 [s] := by
  cases l with
  | nil => cases hs
  | cons a r =>
    obtain rfl : a = s := Option.some.inj hs
    exact .inr ⟨[], a, rfl, rfl⟩
theorem at_step {l P : List Iv} {z s : Iv} {i : Nat} (h : jn l = P ++ mg z (l.drop i)) (hs : l[i]? = some s) :
    (s.1 ≤ z.2 → At l (i + 1) (P ++ [(z.1, max z.2 s.2)])) ∧ (¬ s.1 ≤ z.2 → At l (i + 1) (P ++ [z] ++ [s])) := by
  have hd : l.drop i = s :: l.drop (i + 1) := by
    obtain ⟨hi, e⟩ := List.getElem?_eq_some_iff.mp hs
    rw [List.drop_eq_getElem_cons hi, e]
  rw [hd] at h
  unfold mg at h
  constructor
  · intro g
    rw [if_pos g] at h
    exact .inr ⟨P, _, rfl, h⟩
  · intro g
    rw [if_neg g] at h
    exact .inr ⟨P ++ [z], s, rfl, by rw [List.append_assoc]; exact h⟩
theorem At.done {l F : List Iv} {i : Nat} (h : At l i F) (hi : l.length ≤ i) : F = jn l := by
  rcases h with ⟨rfl, rfl⟩ | ⟨P, z, rfl, h⟩
  · rw [List.length_eq_zero_iff.mp (by omega : l.length = 0)]
    rfl
  · rw [h, List.drop_of_length_le hi]
    rfl
/-! one row of numbers that is in order -/
def SS (l m : List Int) : Prop := m.Pairwise (· < ·) ∧ ∀ x, x ∈ m ↔ x ∈ l
theorem asc_uniq : ∀ {m m' : List Int}, m.Pairwise (· < ·) → m'.Pairwise (· < ·) → (∀ x, x ∈ m ↔ x ∈ m') → m = m'
  | [], [], _, _, _ => rfl
  | [], b :: m', _, _, h => absurd ((h b).mpr (List.mem_cons_self ..)) (by simp)
  | a :: m, [], _, _, h => absurd ((h a).mp (List.mem_cons_self ..)) (by simp)
  | a :: m, b :: m', h1, h2, h => by
    obtain ⟨p1, p2⟩ := List.pairwise_cons.mp h1
    obtain ⟨q1, q2⟩ := List.pairwise_cons.mp h2
    have e : a = b := by
      rcases List.mem_cons.mp ((h a).mp (List.mem_cons_self ..)) with e | e
      · exact e
      · rcases List.mem_cons.mp ((h b).mpr (List.mem_cons_self ..)) with g | g
        · exact g.symm
        · have := p1 b g
          have := q1 a e
          omega
    subst e
    rw [asc_uniq p2 q2 fun x => ?_]
    constructor
    · intro g
      rcases List.mem_cons.mp ((h x).mp (List.mem_cons_of_mem _ g)) with e | e
      · have := p1 x g
        omega
      · exact e
    · intro g
      rcases List.mem_cons.mp ((h x).mpr (List.mem_cons_of_mem _ g)) with e | e
      · have := q1 x g
        omega
      · exact e
theorem SS.one {l l' m m' : List Int} (h : SS l m) (h' : SS l' m') (e : ∀ x, x ∈ l ↔ x ∈ l') : m = m' :=
  asc_uniq h.1 h'.1 fun x => by rw [h.2, h'.2, e]
/-! what a put makes -/
abbrev S3 (β : Type) := Int × Int × β
def lo (a : Iv) : Int := min a.1 a.2
def hi (a : Iv) : Int := max a.1 a.2
theorem lo_hi (a : Iv) : lo a ≤ hi a := by unfold lo hi; omega
/-- (lo, hi - lo, t) of each pick that does something -/
def spls (q : Bool) (t : β) (T : List Iv) : List (S3 β) := T.filterMap fun a => if decide (lo a < hi a) || q then some (lo a, hi a - lo a, t) else none
theorem spls_snoc {q : Bool} {t : β} {T : List Iv} {a : Iv} : spls q t (T ++ [a]) = spls q t T ++ (if decide (lo a < hi a) || q then [(lo a, hi a - lo a, t)] else []) := by
  unfold spls
  rw [List.filterMap_append]
  congr 1
  rw [List.filterMap_cons]
  cases decide (lo a < hi a) || q <;> rfl
def shf (n : Int) (T : List Iv) : Int := (T.map fun a => n - (hi a - lo a)).sum
theorem shf_snoc {n : Int} {T : List Iv} {a : Iv} : shf n (T ++ [a]) = shf n T + (n - (hi a - lo a)) := by
  unfold shf
  rw [List.map_append, List.sum_append]
  simp
def cars (n : Int) (T : List Iv) : List Int := (List.range T.length).map fun i => hi (T.getD i (0, 0)) + shf n (T.take (i + 1))
theorem cars_snoc {n : Int} {T : List Iv} {a : Iv} : cars n (T ++ [a]) = cars n T ++ [hi a + shf n (T ++ [a])] := by
  unfold cars
  rw [List.length_append, List.length_singleton, List.range_succ, List.map_append]
  congr 1
  · refine List.map_congr_left fun i hi' => ?_
    have hl := List.mem_range.mp hi'
    rw [List.getD_eq_getElem?_getD, List.getD_eq_getElem?_getD, List.getElem?_append_left hl, List.take_append_of_le_length (by omega)]
  · show [hi ((T ++ [a]).getD T.length (0, 0)) + shf n (List.take (T.length + 1) (T ++ [a]))] = _
    rw [List.getD_eq_getElem?_getD, List.getElem?_append_right (Nat.le_refl _), Nat.sub_self, List.take_of_length_le (by simp)]
    rfl
/-- picks in order, as the law draws them -/
structure Ord (N : Int) (T : List Iv) : Prop where
  pos : ∀ a ∈ T, 0 ≤ lo a ∧ hi a ≤ N
  pw : T.Pairwise fun a b => hi a < lo b ∨ (hi a = lo b ∧ lo a < hi a ∧ lo b < hi b)
theorem Ord.le {N : Int} {T : List Iv} (h : Ord N T) : T.Pairwise fun a b => hi a ≤ lo b := h.pw.imp fun g => by omega
/-! texts: a row z, stretches taken out and put in -/
variable (z : List β)
def stx (k l : Int) : List β := (z.drop k.toNat).take (l - k).toNat
/-- the text behind the splices from d on -/
def spl : Int → List (Int × Int × List β) → List β
  | d, [] => z.drop d.toNat
  | d, (a, c, t) :: r => stx z d a ++ t ++ spl (a + c) r
variable {z}
theorem stx_nil {k : Int} : stx z k k = [] := by
  unfold stx
  rw [Int.sub_self]
  rfl
theorem stx_app {k l m : Int} (h0 : 0 ≤ k) (h1 : k ≤ l) (h2 : l ≤ m) : stx z k l ++ stx z l m = stx z k m := by
  unfold stx
  have e1 : (m - k).toNat = (l - k).toNat + (m - l).toNat := by omega
  have e2 : z.drop l.toNat = (z.drop k.toNat).drop (l - k).toNat := by
    rw [List.drop_drop]
    congr 1
    omega
  rw [e1, e2, List.take_add]
theorem stx_end {k l : Int} (h0 : 0 ≤ k) (h1 : k ≤ l) : stx z k l ++ z.drop l.toNat = z.drop k.toNat := by
  unfold stx
  have e2 : z.drop l.toNat = (z.drop k.toNat).drop (l - k).toNat := by
    rw [List.drop_drop]
    congr 1
    omega
  rw [e2, List.take_append_drop]
/-- the law's own way: all parts, also the empty ones -/
def ptx (t : List β) : Int → List Iv → List β
  | d, [] => z.drop d.toNat
  | d, a :: r => stx z d (lo a) ++ t ++ ptx t (hi a) r
theorem spl_start {t : List β} {N : Int} : ∀ {T : List Iv} {d e : Int}, 0 ≤ d → d ≤ e → (∀ a ∈ T, e ≤ lo a) → ∀ q, spl z d (spls q t T) = stx z d e ++ spl z e (spls q t T)
  | [], d, e, h0, h1, _, q => (stx_end h0 h1).symm
  | a :: T, d, e, h0, h1, h2, q => by
    have ha := h2 a (List.mem_cons_self ..)
    have ih := fun (d e : Int) (x : 0 ≤ d) (y : d ≤ e) (w : ∀ a ∈ T, e ≤ lo a) => spl_start (t := t) (N := N) (T := T) x y w q
    unfold spls
    rw [List.filterMap_cons]
    cases c : decide (lo a < hi a) || q with
    | true =>
      show stx z d (lo a) ++ t ++ spl z (lo a + (hi a - lo a)) _ = stx z d e ++ (stx z e (lo a) ++ t ++ spl z (lo a + (hi a - lo a)) _)
      rw [← List.append_assoc, ← List.append_assoc, stx_app h0 h1 ha]
    | false =>
      show spl z d (spls q t T) = stx z d e ++ spl z e (spls q t T)
      exact ih d e h0 h1 fun b hb => h2 b (List.mem_cons_of_mem _ hb)
theorem ptx_spl {t : List β} {q : Bool} (hq : q = false → t = []) {N : Int} : ∀ {T : List Iv} {d : Int}, 0 ≤ d → (∀ a ∈ T, d ≤ lo a) → (T.Pairwise fun a b => hi a ≤ lo b) → ptx (z := z) t d T = spl z d (spls q t T)
  | [], d, _, _, _ => rfl
  | a :: T, d, h0, h1, h2 => by
    obtain ⟨p1, p2⟩ := List.pairwise_cons.mp h2
    have ha := h1 a (List.mem_cons_self ..)
    have la := lo_hi a
    have ih := ptx_spl hq (N := N) (T := T) (d := hi a) (by omega) p1 p2
    show stx z d (lo a) ++ t ++ ptx t (hi a) T = _
    rw [ih]
    unfold spls
    rw [List.filterMap_cons]
    cases c : decide (lo a < hi a) || q with
    | true =>
      show _ = stx z d (lo a) ++ t ++ spl z (lo a + (hi a - lo a)) _
      rw [show lo a + (hi a - lo a) = hi a by omega]
    | false =>
      rw [Bool.or_eq_false_iff, decide_eq_false_iff_not] at c
      have e : lo a = hi a := by omega
      rw [hq c.2, List.append_nil, e]
      exact (spl_start (N := N) h0 (by omega) p1 q).symm
end Q46

/-! what is cut at picks, without code -/
namespace Q46
open Pk
variable {β : Type}
/-! how many signs are gone ahead of a place -/
def fr (p : Int) (r : Iv) : Int := if r.1 < p then min r.2 p - r.1 else 0
def ahead (J : List Iv) (p : Int) : Int := ((J.filter fun r => decide (r.1 < p)).map fun r => min r.2 p - r.1).sum
theorem ahead_nil {p : Int} : ahead [] p = 0 := rfl
theorem ahead_cons {p : Int} {r : Iv} {J : List Iv} : ahead (r :: J) p = fr p r + ahead J p := by
  unfold ahead fr
  by_cases h : r.1 < p
  · rw [List.filter_cons_of_pos (by simpa using h), List.map_cons, List.sum_cons, if_pos h]
  · rw [List.filter_cons_of_neg (by simpa using h), if_neg h, Int.zero_add]
theorem fr_step (p : Int) (r : Iv) (h : r.1 < r.2) : fr (p + 1) r = fr p r + if r.1 ≤ p ∧ p < r.2 then 1 else 0 := by
  unfold fr
  by_cases h1 : r.1 < p
  · rw [if_pos h1, if_pos (show r.1 < p + 1 by omega)]
    by_cases h2 : p < r.2
    · rw [if_pos ⟨by omega, h2⟩]; omega
    · rw [if_neg (by omega)]; omega
  · rw [if_neg h1]
    by_cases h2 : r.1 < p + 1
    · rw [if_pos h2, if_pos ⟨by omega, by omega⟩]; omega
    · rw [if_neg h2, if_neg (by omega)]; rfl
open Classical in
theorem ahead_step {p : Int} : ∀ {J : List Iv}, Chn J → ahead J (p + 1) = ahead J p + if cell J p then 1 else 0
  | [], _ => by rw [if_neg cell_nil]; rfl
  | r :: J, h => by
    rw [ahead_cons, ahead_cons, fr_step p r h.head.1, ahead_step h.tail]
    by_cases h1 : r.1 ≤ p ∧ p < r.2
    · rw [if_pos h1, if_neg (fun z => by have := h.above z; omega), if_pos (cell_cons.mpr (.inl h1))]; omega
    · rw [if_neg h1]
      by_cases h2 : cell J p
      · rw [if_pos h2, if_pos (cell_cons.mpr (.inr h2))]; omega
      · rw [if_neg h2, if_neg (fun z => (cell_cons.mp z).elim h1 h2)]; omega
theorem ahead_zero : ∀ {J : List Iv}, (∀ r ∈ J, 0 ≤ r.1) → ahead J 0 = 0
  | [], _ => rfl
  | r :: J, h => by
    rw [ahead_cons, ahead_zero fun x hx => h x (List.mem_cons_of_mem _ hx)]
    unfold fr
    rw [if_neg (by have := h r (List.mem_cons_self ..); omega)]
    rfl
/-- how many stay ahead of k -/
def cnt (g : Nat → Bool) (k : Nat) : Nat := ((List.range k).filter fun i => !g i).length
theorem cnt_succ (g : Nat → Bool) (k : Nat) : cnt g (k + 1) = cnt g k + if g k then 0 else 1 := by
  unfold cnt
  rw [List.range_succ, List.filter_append, List.length_append]
  cases e : g k with
  | true => rw [List.filter_cons_of_neg (by rw [e]; decide)]; rfl
  | false => rw [List.filter_cons_of_pos (by rw [e]; decide)]; rfl
theorem ahead_cnt {J : List Iv} (h : Chn J) (h0 : ∀ r ∈ J, 0 ≤ r.1) {g : Nat → Bool} {N : Nat} (hg : ∀ k : Nat, k < N → (g k = true ↔ cell J k)) : ∀ k : Nat, k ≤ N → (k : Int) - ahead J k = cnt g k
  | 0, _ => by
    have := ahead_zero h0
    show (0 : Int) - ahead J 0 = _
    rw [this]
    rfl
  | k + 1, hk => by
    have ih := ahead_cnt h h0 hg k (by omega)
    have e : ((k + 1 : Nat) : Int) = (k : Int) + 1 := by omega
    rw [e, ahead_step h, cnt_succ]
    have hgk := hg k (by omega)
    by_cases c : cell J (k : Int)
    · rw [if_pos c, if_pos (hgk.mpr c)]; omega
    · rw [if_neg c, if_neg (fun z => c (hgk.mp z))]; omega
/-! what stays -/
def kept (g : Nat → Bool) (z : List β) (a b : Nat) : List β := (List.range' a (b - a)).filterMap fun k => if g k then none else z[k]?
theorem kept_app {g : Nat → Bool} {z : List β} {a b c : Nat} (h1 : a ≤ b) (h2 : b ≤ c) : kept g z a b ++ kept g z b c = kept g z a c := by
  unfold kept
  rw [← List.filterMap_append]
  congr 1
  have e : c - a = (b - a) + (c - b) := by omega
  have := List.range'_append (s := a) (m := b - a) (n := c - b) (step := 1)
  rw [e, ← this]
  congr 2
  omega
theorem kept_gone {g : Nat → Bool} {z : List β} {a b : Nat} (h : ∀ k, a ≤ k → k < b → g k = true) : kept g z a b = [] := by
  unfold kept
  refine List.filterMap_eq_nil_iff.mpr fun k hk => ?_
  have := List.mem_range'_1.mp hk
  rw [if_pos (h k this.1 (by omega))]
theorem kept_all {g : Nat → Bool} {z : List β} : ∀ {m a : Nat}, a + m ≤ z.length → (∀ k, a ≤ k → k < a + m → g k = false) → kept g z a (a + m) = (z.drop a).take m
  | 0, a, _, _ => by
    unfold kept
    rw [Nat.add_sub_cancel_left]
    rfl
  | m + 1, a, hl, h => by
    have ih := kept_all (z := z) (g := g) (m := m) (a := a + 1) (by omega) fun k h1 h2 => h k (by omega) (by omega)
    have e1 : kept g z a (a + 1) = [z[a]'(by omega)] := by
      unfold kept
      rw [Nat.add_sub_cancel_left]
      show List.filterMap _ [a] = _
      rw [List.filterMap_cons, h a (Nat.le_refl _) (by omega)]
      rw [List.getElem?_eq_getElem (by omega)]
      rfl
    have e2 := kept_app (g := g) (z := z) (a := a) (b := a + 1) (c := a + (m + 1)) (by omega) (by omega)
    rw [← e2, e1, show a + (m + 1) = a + 1 + m by omega, ih, List.drop_eq_getElem_cons (show a < z.length by omega), List.take_succ_cons]
    rfl
/-- the splices of a cut -/
def cs3 (t : β) (J : List Iv) : List (S3 β) := J.map fun r => (r.1, r.2 - r.1, t)
theorem cut_kept {z : List β} {g : Nat → Bool} : ∀ {J : List Iv} {d : Nat}, Chn J → (∀ r ∈ J, (d : Int) ≤ r.1 ∧ r.2 ≤ z.length) → d ≤ z.length → (∀ k : Nat, d ≤ k → k < z.length → (g k = true ↔ cell J k)) → spl z d (cs3 [] J) = kept g z d z.length
  | [], d, _, _, hd, hg => by
    have := kept_all (z := z) (g := g) (m := z.length - d) (a := d) (by omega) fun k h1 h2 => by
      cases e : g k with
      | false => rfl
      | true => exact absurd ((hg k h1 (by omega)).mp e) cell_nil
    rw [show d + (z.length - d) = z.length by omega] at this
    rw [this, List.take_of_length_le (by rw [List.length_drop]; omega)]
    rfl
  | r :: J, d, h, hr, hd, hg => by
    obtain ⟨r0, r1⟩ := hr r (List.mem_cons_self ..)
    have hlt := h.head.1
    obtain ⟨a, ha⟩ : ∃ a : Nat, r.1 = a := ⟨r.1.toNat, by omega⟩
    obtain ⟨b, hb⟩ : ∃ b : Nat, r.2 = b := ⟨r.2.toNat, by omega⟩
    have ih := cut_kept (z := z) (g := g) (J := J) (d := b) h.tail (fun s hs => ⟨by have := h.head.2 s hs; omega, (hr s (List.mem_cons_of_mem _ hs)).2⟩) (by omega) fun k h1 h2 => by
      rw [hg k (by omega) h2, cell_cons]
      constructor
      · rintro (g | g)
        · omega
        · exact g
      · exact .inr
    show stx z d r.1 ++ [] ++ spl z (r.1 + (r.2 - r.1)) (cs3 [] J) = _
    rw [List.append_nil, show r.1 + (r.2 - r.1) = (b : Int) by omega, ih]
    have e1 : stx z d r.1 = kept g z d a := by
      have := kept_all (z := z) (g := g) (m := a - d) (a := d) (by omega) fun k h1 h2 => by
        cases e : g k with
        | false => rfl
        | true =>
          rcases cell_cons.mp ((hg k h1 (by omega)).mp e) with c | c
          · omega
          · have := h.above c; omega
      rw [show d + (a - d) = a by omega] at this
      rw [this]
      unfold stx
      rw [ha, Int.toNat_natCast]
      congr 1
      omega
    have e2 : kept g z a b = [] := kept_gone fun k h1 h2 => (hg k (by omega) (by omega)).mpr (cell_cons.mpr (.inl ⟨by omega, by omega⟩))
    have e3 := kept_app (g := g) (z := z) (a := d) (b := a) (c := b) (by omega) (by omega)
    rw [e2, List.append_nil] at e3
    rw [e1, e3, kept_app (by omega) (by omega)]
/-! the law's runs, sign by sign -/
structure RunAt (g : Nat → Bool) (k : Nat) (L : List Iv) : Prop where
  chn : Chn L
  cel : ∀ x : Int, cell L x ↔ 0 ≤ x ∧ x < k ∧ g x.toNat = true
  inn : ∀ x, Pk.inn L x ↔ cell L x ∧ cell L (x - 1)
  le : ∀ r ∈ L, r.2 ≤ k
theorem RunAt.start {g : Nat → Bool} : RunAt g 0 [] := ⟨⟨(fun _ z => nomatch z), List.Pairwise.nil⟩, fun x => ⟨fun z => absurd z cell_nil, fun z => by omega⟩, fun x => ⟨fun z => absurd z inn_nil, fun z => absurd z.1 cell_nil⟩, fun _ z => nomatch z⟩
theorem RunAt.skip {g : Nat → Bool} {k : Nat} {L : List Iv} (h : RunAt g k L) (hk : g k = false) : RunAt g (k + 1) L := by
  refine ⟨h.chn, fun x => ?_, h.inn, fun r hr => by have := h.le r hr; omega⟩
  rw [h.cel]
  constructor
  · rintro ⟨a, b, c⟩
    exact ⟨a, by omega, c⟩
  · rintro ⟨a, b, c⟩
    refine ⟨a, ?_, c⟩
    rcases Int.lt_or_le x k with d | d
    · exact d
    · have : x.toNat = k := by omega
      rw [this, hk] at c
      cases c
theorem cell_snoc {L : List Iv} {r : Iv} {x : Int} : cell (L ++ [r]) x ↔ cell L x ∨ (r.1 ≤ x ∧ x < r.2) := by
  constructor
  · rintro ⟨s, hs, h⟩
    rcases List.mem_append.mp hs with e | e
    · exact .inl ⟨s, e, h⟩
    · rw [List.mem_singleton.mp e] at h
      exact .inr h
  · rintro (⟨s, hs, h⟩ | h)
    · exact ⟨s, List.mem_append_left _ hs, h⟩
    · exact ⟨r, List.mem_append_right _ (List.mem_singleton.mpr rfl), h⟩
theorem inn_snoc {L : List Iv} {r : Iv} {x : Int} : Pk.inn (L ++ [r]) x ↔ Pk.inn L x ∨ (r.1 < x ∧ x < r.2) := by
  constructor
  · rintro ⟨s, hs, h⟩
    rcases List.mem_append.mp hs with e | e
    · exact .inl ⟨s, e, h⟩
    · rw [List.mem_singleton.mp e] at h
      exact .inr h
  · rintro (⟨s, hs, h⟩ | h)
    · exact ⟨s, List.mem_append_left _ hs, h⟩
    · exact ⟨r, List.mem_append_right _ (List.mem_singleton.mpr rfl), h⟩
theorem chn_snoc {L : List Iv} {r : Iv} : Chn (L ++ [r]) ↔ Chn L ∧ r.1 < r.2 ∧ ∀ s ∈ L, s.2 ≤ r.1 := by
  unfold Chn
  rw [List.pairwise_append]
  constructor
  · rintro ⟨h1, h2, _, h3⟩
    exact ⟨⟨fun s hs => h1 s (List.mem_append_left _ hs), h2⟩, h1 r (List.mem_append_right _ (List.mem_singleton.mpr rfl)), fun s hs => h3 s hs r (List.mem_singleton.mpr rfl)⟩
  · rintro ⟨⟨h1, h2⟩, h3, h4⟩
    refine ⟨fun s hs => ?_, h2, List.pairwise_singleton _ _, fun s hs t ht => by rw [List.mem_singleton.mp ht]; exact h4 s hs⟩
    rcases List.mem_append.mp hs with e | e
    · exact h1 s e
    · rw [List.mem_singleton.mp e]; exact h3
theorem RunAt.cels {g : Nat → Bool} {k : Nat} {L : List Iv} (h : RunAt g k L) (hk : g k = true) (x : Int) : (cell L x ∨ ((k : Int) ≤ x ∧ x < k + 1)) ↔ 0 ≤ x ∧ x < (k + 1 : Nat) ∧ g x.toNat = true := by
  rw [h.cel]
  constructor
  · rintro (⟨a, b, c⟩ | ⟨a, b⟩)
    · exact ⟨a, by omega, c⟩
    · have : x.toNat = k := by omega
      exact ⟨by omega, by omega, by rw [this]; exact hk⟩
  · rintro ⟨a, b, c⟩
    rcases Int.lt_or_le x k with d | d
    · exact .inl ⟨a, d, c⟩
    · exact .inr ⟨d, by omega⟩
theorem RunAt.new {g : Nat → Bool} {k : Nat} {L : List Iv} (h : RunAt g k L) (hk : g k = true) (hp : k = 0 ∨ g (k - 1) = false) : RunAt g (k + 1) (L ++ [((k : Int), (k : Int) + 1)]) := by
  refine ⟨chn_snoc.mpr ⟨h.chn, by show (k : Int) < k + 1; omega, fun s hs => h.le s hs⟩, fun x => cell_snoc.trans (h.cels hk x), fun x => ?_, fun r hr => ?_⟩
  · rw [inn_snoc, cell_snoc, cell_snoc, h.inn]
    have c0 : ¬ cell L ((k : Int) - 1) := fun z => by
      obtain ⟨a, b, c⟩ := (h.cel _).mp z
      rcases hp with e | e
      · omega
      · have : ((k : Int) - 1).toNat = k - 1 := by omega
        rw [this, e] at c
        cases c
    have c1 : ¬ cell L (k : Int) := fun z => by have := ((h.cel _).mp z).2.1; omega
    show _ ∨ ((k : Int) < x ∧ x < (k : Int) + 1) ↔ (_ ∨ ((k : Int) ≤ x ∧ x < (k : Int) + 1)) ∧ (_ ∨ ((k : Int) ≤ x - 1 ∧ x - 1 < (k : Int) + 1))
    constructor
    · rintro (⟨a, b⟩ | a)
      · exact ⟨.inl a, .inl b⟩
      · omega
    · rintro ⟨a | a, b | b⟩
      · exact .inl ⟨a, b⟩
      · have := ((h.cel _).mp a).2.1; omega
      · exfalso
        have e : x = k := by omega
        rw [e] at b
        exact c0 b
      · omega
  · rcases List.mem_append.mp hr with e | e
    · have := h.le r e; omega
    · rw [List.mem_singleton.mp e]; show (k : Int) + 1 ≤ _; omega
theorem RunAt.more {g : Nat → Bool} {k : Nat} {L : List Iv} (h : RunAt g k L) (hk : g k = true) (h0 : 0 < k) (hp : g (k - 1) = true) : ∃ P a, L = P ++ [(a, (k : Int))] ∧ RunAt g (k + 1) (P ++ [(a, (k : Int) + 1)]) := by
  have c : cell L ((k : Int) - 1) := (h.cel _).mpr ⟨by omega, by omega, by rw [show ((k : Int) - 1).toNat = k - 1 by omega]; exact hp⟩
  have ne : L ≠ [] := fun z => by rw [z] at c; exact cell_nil c
  obtain ⟨P, r, e⟩ : ∃ P r, L = P ++ [r] := ⟨_, _, (List.dropLast_concat_getLast ne).symm⟩
  subst e
  obtain ⟨h1, h2, h3⟩ := chn_snoc.mp h.chn
  have hr2 : r.2 = k := by
    have l := h.le r (List.mem_append_right _ (List.mem_singleton.mpr rfl))
    rcases cell_snoc.mp c with ⟨s, hs, g1, g2⟩ | g
    · have := h3 s hs; omega
    · omega
  obtain ⟨a, b⟩ := r
  cases (show b = (k : Int) from hr2)
  have h2 : a < (k : Int) := h2
  have h3 : ∀ s ∈ P, s.2 ≤ a := h3
  refine ⟨P, a, rfl, chn_snoc.mpr ⟨h1, by show a < (k : Int) + 1; omega, h3⟩, fun x => ?_, fun x => ?_, fun r hr => ?_⟩
  · rw [← h.cels hk x, cell_snoc, cell_snoc]
    show _ ∨ (a ≤ x ∧ x < (k : Int) + 1) ↔ (_ ∨ (a ≤ x ∧ x < (k : Int))) ∨ _
    constructor
    · rintro (g | g)
      · exact .inl (.inl g)
      · by_cases d : x < k
        · exact .inl (.inr ⟨g.1, d⟩)
        · exact .inr ⟨by omega, g.2⟩
    · rintro ((g | g) | g)
      · exact .inl g
      · exact .inr ⟨g.1, by omega⟩
      · exact .inr ⟨by omega, g.2⟩
  · have hi := h.inn x
    rw [inn_snoc, cell_snoc, cell_snoc] at hi
    rw [inn_snoc, cell_snoc, cell_snoc]
    have up : ∀ y, cell P y → y < a := fun y ⟨s, hs, g⟩ => by have := h3 s hs; omega
    have hi : (Pk.inn P x ∨ (a < x ∧ x < (k : Int))) ↔ (cell P x ∨ (a ≤ x ∧ x < (k : Int))) ∧ (cell P (x - 1) ∨ (a ≤ x - 1 ∧ x - 1 < (k : Int))) := hi
    show (Pk.inn P x ∨ (a < x ∧ x < (k : Int) + 1)) ↔ (cell P x ∨ (a ≤ x ∧ x < (k : Int) + 1)) ∧ (cell P (x - 1) ∨ (a ≤ x - 1 ∧ x - 1 < (k : Int) + 1))
    by_cases d : x < k
    · have e1 : (a < x ∧ x < (k : Int) + 1) ↔ (a < x ∧ x < (k : Int)) := by omega
      have e2 : (a ≤ x ∧ x < (k : Int) + 1) ↔ (a ≤ x ∧ x < (k : Int)) := by omega
      have e3 : (a ≤ x - 1 ∧ x - 1 < (k : Int) + 1) ↔ (a ≤ x - 1 ∧ x - 1 < (k : Int)) := by omega
      rw [e1, e2, e3]
      exact hi
    · have n1 : ¬ Pk.inn P x := fun ⟨s, hs, g⟩ => by have := h3 s hs; omega
      have n2 : ¬ cell P x := fun z => by have := up x z; omega
      constructor
      · rintro (g | g)
        · exact absurd g n1
        · exact ⟨.inr ⟨by omega, g.2⟩, .inr ⟨by omega, by omega⟩⟩
      · rintro ⟨g | g, g'⟩
        · exact absurd g n2
        · exact .inr ⟨by omega, g.2⟩
  · rcases List.mem_append.mp hr with e | e
    · have := h.le r (List.mem_append_left _ e); omega
    · rw [List.mem_singleton.mp e]; show (k : Int) + 1 ≤ _; omega
theorem RunAt.eq {g : Nat → Bool} {N : Nat} {L l : List Iv} (h : RunAt g N L) (ne : ∀ z ∈ l, z.1 < z.2) (pw : l.Pairwise Lx) (hg : ∀ x : Int, cell l x ↔ 0 ≤ x ∧ x < N ∧ g x.toNat = true) : L = jn l := by
  obtain ⟨j1, j2, j3⟩ := jn_ok ne pw
  refine Chn.uniq h.chn j1 (fun x => by rw [h.cel, j2, hg]) fun x => ?_
  rw [h.inn, j3, h.cel, h.cel, hg, hg]
end Q46

namespace K46
open PySem PySem.Spec PyProof.Rows L2 Dk Q46
/-- one step of a reading -/
local macro_rules | `(tactic| walk_at "rd1") => `(tactic| first
  | ((with_reducible refine r_var (v := ?rv) ?rh ?_); (case rh => rfl))
  | with_reducible refine r_c ?_
  | with_reducible refine r_seq ?_
  | with_reducible refine r_asg ?_
  | with_reducible refine r_par ?_
  | with_reducible refine r_gname ?_
  | with_reducible refine r_op ?_
  | with_reducible refine r_forLo ?_
  | with_reducible refine r_forTo ?_
  | with_reducible refine r_forSo ?_
  | with_reducible refine r_forRo ?_
  | with_reducible refine r_forRvo ?_
  | with_reducible refine r_forZo ?_
  | with_reducible refine r_revS ?_
  | with_reducible refine r_lcRo ?_
  | with_reducible refine r_lcLo ?_
  | with_reducible refine r_yes ?_
  | with_reducible refine r_callK0 ?_
  | with_reducible refine r_break ?_
  | with_reducible refine r_continue ?_
  | with_reducible refine r_forR2o ?_
  | with_reducible refine r_forEo ?_
  | with_reducible refine r_forESo ?_
  | with_reducible refine r_xfo ?_
  | with_reducible refine r_noP ?_
  | with_reducible refine r_part ?_
  | with_reducible refine r_pI ?_
  | with_reducible refine r_gcons ?_
  | with_reducible refine r_gnil ?_
  | with_reducible refine r_mkO ?_
  | with_reducible refine r_un ?_
  | with_reducible refine r_addI ?_
  | with_reducible refine r_I0 ?_
  | with_reducible refine r_U ?_
  | with_reducible refine r_cons ?_
  | with_reducible refine r_nil ?_
  | with_reducible refine r_CB ?_
  | with_reducible refine r_call ?_
  | with_reducible refine r_callS ?_
  | with_reducible refine r_int ?_
  | with_reducible refine r_max ?_
  | with_reducible refine r_min ?_
  | with_reducible refine r_test ?_
  | with_reducible refine r_B ?_
  | with_reducible refine r_blv ?_
  | with_reducible refine r_and ?_
  | with_reducible refine r_or ?_
  | with_reducible refine r_not ?_
  | with_reducible refine r_andV ?_
  | with_reducible refine r_orV ?_
  | with_reducible refine r_notV ?_
  | with_reducible refine r_ifE ?_
  | with_reducible refine r_ifS ?_
  | with_reducible refine r_ret ?_
  | with_reducible refine r_retN ?_
  | with_reducible refine r_drop ?_
  | with_reducible refine r_next ?_
  | with_reducible refine r_sl ?_
  | with_reducible refine r_gsub ?_
  | with_reducible refine r_bm ?_
  | with_reducible refine r_bm0 ?_
  | with_reducible refine r_tup ?_
  | with_reducible refine r_lst ?_
  | with_reducible refine r_isN ?_
  | with_reducible refine r_notN ?_
  | with_reducible refine r_chain ?_
  | with_reducible refine r_callK ?_
  | with_reducible refine r_isB ?_
  | with_reducible refine r_lcEio ?_
  | with_reducible refine r_forEi ?_
  | with_reducible refine r_lcTo ?_
  | with_reducible refine r_lcSo ?_
  | with_reducible refine r_m1 ?_
  | with_reducible refine r_dget ?_
  | with_reducible refine r_din ?_
  | with_reducible refine r_dnotin ?_
  | with_reducible refine r_starC ?_
  | with_reducible refine r_callKS ?_
  | with_reducible refine r_itt ?_
  | with_reducible refine r_iff ?_
  | with_reducible refine r_ittN ?_
  | with_reducible refine r_iffN ?_
  | ((with_reducible refine r_ittD ?rh ?_); (case rh => rfl))
  | ((with_reducible refine r_iffD ?rh ?_); (case rh => rfl))
  | ((with_reducible refine r_modP ?rh ?_); (case rh => decide))
  | ((with_reducible refine r_eq ?rh ?_); (case rh => rfl))
  | ((with_reducible refine r_eqP ?rh ?_); (case rh => rfl))
  | ((with_reducible refine r_ne ?rh ?_); (case rh => rfl)))
local macro_rules | `(tactic| walk_at "rd") => `(tactic| repeat walk_at "rd1")
local macro_rules | `(tactic| walk_at "isi") => `(tactic| first | refine r_isi (b := true) (by assumption) (by decide +kernel) ?_ | refine r_isi (b := false) (by assumption) (by decide +kernel) ?_)
local macro_rules | `(tactic| walk_at "rs1") => `(tactic| first
  | with_reducible refine r_seq ?_
  | with_reducible refine r_asg ?_
  | with_reducible refine r_gname ?_
  | with_reducible refine r_ret ?_)
local macro_rules | `(tactic| walk_at "rs") => `(tactic| repeat walk_at "rs1")

def topS (i : Nat) : Stmt := PySem.Challenge.pw_deedstand_k46_whole_entering_at_picks.main.body.getD i (.Pass ⟨0, 0, 0, 0⟩)
abbrev s_low_high : Stmt := topS 2
abbrev N_low_high : List Str := ["pick", "tail", "head"]
theorem sc_low_high : FnScope ["pick", "tail", "head"] ["pick"] (defScope s_low_high) := ⟨rfl, rfl, rfl, by decide +kernel, rfl, by decide +kernel, by decide +kernel⟩
abbrev s_joined_stretches : Stmt := topS 3
abbrev N_joined_stretches : List Str := ["stretches", "found", "low", "high", "begin", "end"]
theorem sc_joined_stretches : FnScope ["stretches", "found", "low", "high", "begin", "end"] ["stretches"] (defScope s_joined_stretches) := ⟨rfl, rfl, rfl, by decide +kernel, rfl, by decide +kernel, by decide +kernel⟩
abbrev s_put_texts : Stmt := topS 5
abbrev N_put_texts : List Str := ["picks", "texts", "splices", "carets", "shift", "pick", "text", "low", "high"]
theorem sc_put_texts : FnScope ["picks", "texts", "splices", "carets", "shift", "pick", "text", "low", "high"] ["picks", "texts"] (defScope s_put_texts) := ⟨rfl, rfl, rfl, by decide +kernel, rfl, by decide +kernel, by decide +kernel⟩
abbrev s_put_round : Stmt := topS 6
abbrev N_put_round : List Str := ["picks", "text"]
theorem sc_put_round : FnScope ["picks", "text"] ["picks", "text"] (defScope s_put_round) := ⟨rfl, rfl, rfl, by decide +kernel, rfl, by decide +kernel, by decide +kernel⟩
abbrev s_cut_ahead : Stmt := topS 7
abbrev N_cut_ahead : List Str := ["stretches", "place", "low", "high"]
theorem sc_cut_ahead : FnScope ["stretches", "place", "low", "high"] ["stretches", "place"] (defScope s_cut_ahead) := ⟨rfl, rfl, rfl, by decide +kernel, rfl, by decide +kernel, by decide +kernel⟩
abbrev s_cut_round : Stmt := topS 8
abbrev N_cut_round : List Str := ["picks", "stretches", "joined", "splices", "lows", "tail", "head", "low", "high"]
theorem sc_cut_round : FnScope ["picks", "stretches", "joined", "splices", "lows", "tail", "head", "low", "high"] ["picks", "stretches"] (defScope s_cut_round) := ⟨rfl, rfl, rfl, by decide +kernel, rfl, by decide +kernel, by decide +kernel⟩
abbrev s_back_cuts : Stmt := topS 9
abbrev N_back_cuts : List Str := ["picks", "text", "many", "stretches", "low", "high", "begin", "pick"]
theorem sc_back_cuts : FnScope ["picks", "text", "many", "stretches", "low", "high", "begin", "pick"] ["picks", "text", "many"] (defScope s_back_cuts) := ⟨rfl, rfl, rfl, by decide +kernel, rfl, by decide +kernel, by decide +kernel⟩
abbrev s_ahead_cuts : Stmt := topS 10
abbrev N_ahead_cuts : List Str := ["picks", "text", "many", "stretches", "low", "high", "end", "pick"]
theorem sc_ahead_cuts : FnScope ["picks", "text", "many", "stretches", "low", "high", "end", "pick"] ["picks", "text", "many"] (defScope s_ahead_cuts) := ⟨rfl, rfl, rfl, by decide +kernel, rfl, by decide +kernel, by decide +kernel⟩
abbrev s_first_strange : Stmt := topS 16
abbrev N_first_strange : List Str := ["text", "at", "sign"]
theorem sc_first_strange : FnScope ["text", "at", "sign"] ["text"] (defScope s_first_strange) := ⟨rfl, rfl, rfl, by decide +kernel, rfl, by decide +kernel, by decide +kernel⟩
abbrev s_is_text : Stmt := topS 17
abbrev N_is_text : List Str := ["thing"]
theorem sc_is_text : FnScope ["thing"] ["thing"] (defScope s_is_text) := ⟨rfl, rfl, rfl, by decide +kernel, rfl, by decide +kernel, by decide +kernel⟩
abbrev s_is_number : Stmt := topS 19
abbrev N_is_number : List Str := ["thing"]
theorem sc_is_number : FnScope ["thing"] ["thing"] (defScope s_is_number) := ⟨rfl, rfl, rfl, by decide +kernel, rfl, by decide +kernel, by decide +kernel⟩
abbrev s_is_splice : Stmt := topS 21
abbrev N_is_splice : List Str := ["thing", "at", "cut", "text"]
theorem sc_is_splice : FnScope ["thing", "at", "cut", "text"] ["thing"] (defScope s_is_splice) := ⟨rfl, rfl, rfl, by decide +kernel, rfl, by decide +kernel, by decide +kernel⟩
abbrev s_follows : Stmt := topS 22
abbrev N_follows : List Str := ["before", "splice"]
theorem sc_follows : FnScope ["before", "splice"] ["before", "splice"] (defScope s_follows) := ⟨rfl, rfl, rfl, by decide +kernel, rfl, by decide +kernel, by decide +kernel⟩
abbrev s_check_round : Stmt := topS 23
abbrev N_check_round : List Str := ["size", "splices", "k", "splice"]
theorem sc_check_round : FnScope ["size", "splices", "k", "splice"] ["size", "splices"] (defScope s_check_round) := ⟨rfl, rfl, rfl, by decide +kernel, rfl, by decide +kernel, by decide +kernel⟩
abbrev s_spliced : Stmt := topS 24
abbrev N_spliced : List Str := ["text", "splices", "parts", "done", "at", "cut", "put"]
theorem sc_spliced : FnScope ["text", "splices", "parts", "done", "at", "cut", "put"] ["text", "splices"] (defScope s_spliced) := ⟨rfl, rfl, rfl, by decide +kernel, rfl, by decide +kernel, by decide +kernel⟩
abbrev s_law_draws : Stmt := topS 26
abbrev N_law_draws : List Str := ["_law_script", "_law_state", "_law_pool", "_law_cell", "_law_size"]
theorem sc_law_draws : FnScope ["_law_script", "_law_state", "_law_pool", "_law_cell", "_law_size"] ["_law_script"] (defScope s_law_draws) := ⟨rfl, rfl, rfl, by decide +kernel, rfl, by decide +kernel, by decide +kernel⟩
abbrev s_law_take : Stmt := topS 27
abbrev N_law_take : List Str := ["_law_flow", "_law_many", "_law_pool", "_law_got"]
theorem sc_law_take : FnScope ["_law_flow", "_law_many", "_law_pool", "_law_got"] ["_law_flow", "_law_many"] (defScope s_law_take) := ⟨rfl, rfl, rfl, by decide +kernel, rfl, by decide +kernel, by decide +kernel⟩
abbrev s_law_sign : Stmt := topS 28
abbrev N_law_sign : List Str := ["_law_flow", "_law_few", "_law_signs"]
theorem sc_law_sign : FnScope ["_law_flow", "_law_few", "_law_signs"] ["_law_flow", "_law_few"] (defScope s_law_sign) := ⟨rfl, rfl, rfl, by decide +kernel, rfl, by decide +kernel, by decide +kernel⟩
abbrev s_law_text : Stmt := topS 29
abbrev N_law_text : List Str := ["_law_flow", "_law_size", "_law_few", "_law_k"]
theorem sc_law_text : FnScope ["_law_flow", "_law_size", "_law_few", "_law_k"] ["_law_flow", "_law_size"] (defScope s_law_text) := ⟨rfl, rfl, rfl, by decide +kernel, rfl, by decide +kernel, by decide +kernel⟩
abbrev s_law_picks : Stmt := topS 30
abbrev N_law_picks : List Str := ["_law_flow", "_law_size", "_law_most", "_law_gaps", "_law_sizes", "_law_out", "_law_spot", "_law_caret", "_law_k", "_law_low", "_law_high", "_law_turned"]
theorem sc_law_picks : FnScope ["_law_flow", "_law_size", "_law_most", "_law_gaps", "_law_sizes", "_law_out", "_law_spot", "_law_caret", "_law_k", "_law_low", "_law_high", "_law_turned"] ["_law_flow", "_law_size", "_law_most", "_law_gaps", "_law_sizes"] (defScope s_law_picks) := ⟨rfl, rfl, rfl, by decide +kernel, rfl, by decide +kernel, by decide +kernel⟩
abbrev s_law_put : Stmt := topS 31
abbrev N_law_put : List Str := ["_law_body", "_law_given", "_law_put_here", "_law_parts", "_law_splices", "_law_carets", "_law_done_here", "_law_size", "_law_pick", "_law_low", "_law_high"]
theorem sc_law_put : FnScope ["_law_body", "_law_given", "_law_put_here", "_law_parts", "_law_splices", "_law_carets", "_law_done_here", "_law_size", "_law_pick", "_law_low", "_law_high"] ["_law_body", "_law_given", "_law_put_here"] (defScope s_law_put) := ⟨rfl, rfl, rfl, by decide +kernel, rfl, by decide +kernel, by decide +kernel⟩
abbrev s_law_cut : Stmt := topS 32
abbrev N_law_cut : List Str := ["_law_body", "_law_given", "_law_most", "_law_back", "_law_gone", "_law_pick", "_law_low", "_law_high", "_law_k", "_law_splices", "_law_left", "_law_carets", "_law_kept", "_law_sign_here"]
theorem sc_law_cut : FnScope ["_law_body", "_law_given", "_law_most", "_law_back", "_law_gone", "_law_pick", "_law_low", "_law_high", "_law_k", "_law_splices", "_law_left", "_law_carets", "_law_kept", "_law_sign_here"] ["_law_body", "_law_given", "_law_most", "_law_back"] (defScope s_law_cut) := ⟨rfl, rfl, rfl, by decide +kernel, rfl, by decide +kernel, by decide +kernel⟩
abbrev s_law_number : Stmt := topS 33
abbrev N_law_number : List Str := ["_law_thing"]
theorem sc_law_number : FnScope ["_law_thing"] ["_law_thing"] (defScope s_law_number) := ⟨rfl, rfl, rfl, by decide +kernel, rfl, by decide +kernel, by decide +kernel⟩
abbrev s_law_splice_same : Stmt := topS 34
abbrev N_law_splice_same : List Str := ["_law_told", "_law_due"]
theorem sc_law_splice_same : FnScope ["_law_told", "_law_due"] ["_law_told", "_law_due"] (defScope s_law_splice_same) := ⟨rfl, rfl, rfl, by decide +kernel, rfl, by decide +kernel, by decide +kernel⟩
abbrev s_law_same : Stmt := topS 35
abbrev N_law_same : List Str := ["_law_told", "_law_due", "_law_k"]
theorem sc_law_same : FnScope ["_law_told", "_law_due", "_law_k"] ["_law_told", "_law_due"] (defScope s_law_same) := ⟨rfl, rfl, rfl, by decide +kernel, rfl, by decide +kernel, by decide +kernel⟩
abbrev s_law_done : Stmt := topS 36
abbrev N_law_done : List Str := ["_law_body", "_law_told", "_law_due", "_law_after"]
theorem sc_law_done : FnScope ["_law_body", "_law_told", "_law_due", "_law_after"] ["_law_body", "_law_told", "_law_due"] (defScope s_law_done) := ⟨rfl, rfl, rfl, by decide +kernel, rfl, by decide +kernel, by decide +kernel⟩
abbrev s_law : Stmt := topS 37
abbrev N_law : List Str := ["_law_script", "_law_flow", "_law_size", "_law_most", "_law_gaps", "_law_sizes", "_law_kind", "_law_body", "_law_given", "_law_put_here", "_law_count", "_law_first", "_law_back", "_law_ahead"]
theorem sc_law : FnScope ["_law_script", "_law_flow", "_law_size", "_law_most", "_law_gaps", "_law_sizes", "_law_kind", "_law_body", "_law_given", "_law_put_here", "_law_count", "_law_first", "_law_back", "_law_ahead"] ["_law_script"] (defScope s_law) := ⟨rfl, rfl, rfl, by decide +kernel, rfl, by decide +kernel, by decide +kernel⟩
abbrev s_init_BadSplice : Stmt := inClass (topS 13) 0
theorem sc_init_BadSplice : FnScope ["self", "at"] ["self", "at"] (defScope s_init_BadSplice) := ⟨rfl, rfl, rfl, by decide +kernel, rfl, by decide +kernel, by decide +kernel⟩
def gk_back_cuts_0 {α : Type} : List α → List α → List α
  | [], [y0, y1, y2] => [y2, y1, y0]
  | _, _ => []
theorem gk_back_cuts_0_rel {vs zs : List V} {us ws : List Value} (r : Vals vs us) (q : Vals zs ws) : Vals (gk_back_cuts_0 vs zs) (gk_back_cuts_0 us ws) := by
  rcases r with _ | ⟨_, _⟩ <;> rcases q with _ | ⟨b0, _ | ⟨b1, _ | ⟨b2, _ | ⟨_, _⟩⟩⟩⟩ <;> first | exact .nil | exact .cons b2 (.cons b1 (.cons b0 .nil))
def gk_ahead_cuts_0 {α : Type} : List α → List α → List α
  | [], [y0, y1, y2] => [y1, y2, y0]
  | _, _ => []
theorem gk_ahead_cuts_0_rel {vs zs : List V} {us ws : List Value} (r : Vals vs us) (q : Vals zs ws) : Vals (gk_ahead_cuts_0 vs zs) (gk_ahead_cuts_0 us ws) := by
  rcases r with _ | ⟨_, _⟩ <;> rcases q with _ | ⟨b0, _ | ⟨b1, _ | ⟨b2, _ | ⟨_, _⟩⟩⟩⟩ <;> first | exact .nil | exact .cons b1 (.cons b2 (.cons b0 .nil))
def gk_put_round_0 {α : Type} : List α → List α → List α
  | [], [y0, y1] => [y1, y0]
  | _, _ => []
theorem gk_put_round_0_rel {vs zs : List V} {us ws : List Value} (r : Vals vs us) (q : Vals zs ws) : Vals (gk_put_round_0 vs zs) (gk_put_round_0 us ws) := by
  rcases r with _ | ⟨_, _⟩ <;> rcases q with _ | ⟨b0, _ | ⟨b1, _ | ⟨_, _⟩⟩⟩ <;> first | exact .nil | exact .cons b1 (.cons b0 .nil)
structure Txt (K : PySem.W.Frag) (mg : Str → Option Value) where
  a_low_high : Addr
  d_low_high : FuncData
  F_low_high : Fun K "low_high" "low_high" s_low_high a_low_high d_low_high
  g_low_high : mg "low_high" = some (.ref a_low_high)
  b_low_high : Binds K d_low_high ["pick"] []
  a_joined_stretches : Addr
  d_joined_stretches : FuncData
  F_joined_stretches : Fun K "joined_stretches" "joined_stretches" s_joined_stretches a_joined_stretches d_joined_stretches
  g_joined_stretches : mg "joined_stretches" = some (.ref a_joined_stretches)
  b_joined_stretches : Binds K d_joined_stretches ["stretches"] []
  a_put_texts : Addr
  d_put_texts : FuncData
  F_put_texts : Fun K "put_texts" "put_texts" s_put_texts a_put_texts d_put_texts
  g_put_texts : mg "put_texts" = some (.ref a_put_texts)
  b_put_texts : Binds K d_put_texts ["picks", "texts"] []
  a_put_round : Addr
  d_put_round : FuncData
  F_put_round : Fun K "put_round" "put_round" s_put_round a_put_round d_put_round
  g_put_round : mg "put_round" = some (.ref a_put_round)
  b_put_round : Binds K d_put_round ["picks", "text"] []
  a_cut_ahead : Addr
  d_cut_ahead : FuncData
  F_cut_ahead : Fun K "cut_ahead" "cut_ahead" s_cut_ahead a_cut_ahead d_cut_ahead
  g_cut_ahead : mg "cut_ahead" = some (.ref a_cut_ahead)
  b_cut_ahead : Binds K d_cut_ahead ["stretches", "place"] []
  a_cut_round : Addr
  d_cut_round : FuncData
  F_cut_round : Fun K "cut_round" "cut_round" s_cut_round a_cut_round d_cut_round
  g_cut_round : mg "cut_round" = some (.ref a_cut_round)
  b_cut_round : Binds K d_cut_round ["picks", "stretches"] []
  a_back_cuts : Addr
  d_back_cuts : FuncData
  F_back_cuts : Fun K "back_cuts" "back_cuts" s_back_cuts a_back_cuts d_back_cuts
  g_back_cuts : mg "back_cuts" = some (.ref a_back_cuts)
  b_back_cuts : Binds K d_back_cuts ["picks", "text", "many"] []
  a_ahead_cuts : Addr
  d_ahead_cuts : FuncData
  F_ahead_cuts : Fun K "ahead_cuts" "ahead_cuts" s_ahead_cuts a_ahead_cuts d_ahead_cuts
  g_ahead_cuts : mg "ahead_cuts" = some (.ref a_ahead_cuts)
  b_ahead_cuts : Binds K d_ahead_cuts ["picks", "text", "many"] []
  a_first_strange : Addr
  d_first_strange : FuncData
  F_first_strange : Fun K "first_strange" "first_strange" s_first_strange a_first_strange d_first_strange
  g_first_strange : mg "first_strange" = some (.ref a_first_strange)
  b_first_strange : Binds K d_first_strange ["text"] []
  a_is_text : Addr
  d_is_text : FuncData
  F_is_text : Fun K "is_text" "is_text" s_is_text a_is_text d_is_text
  g_is_text : mg "is_text" = some (.ref a_is_text)
  b_is_text : Binds K d_is_text ["thing"] []
  a_is_number : Addr
  d_is_number : FuncData
  F_is_number : Fun K "is_number" "is_number" s_is_number a_is_number d_is_number
  g_is_number : mg "is_number" = some (.ref a_is_number)
  b_is_number : Binds K d_is_number ["thing"] []
  a_is_splice : Addr
  d_is_splice : FuncData
  F_is_splice : Fun K "is_splice" "is_splice" s_is_splice a_is_splice d_is_splice
  g_is_splice : mg "is_splice" = some (.ref a_is_splice)
  b_is_splice : Binds K d_is_splice ["thing"] []
  a_follows : Addr
  d_follows : FuncData
  F_follows : Fun K "follows" "follows" s_follows a_follows d_follows
  g_follows : mg "follows" = some (.ref a_follows)
  b_follows : Binds K d_follows ["before", "splice"] []
  a_check_round : Addr
  d_check_round : FuncData
  F_check_round : Fun K "check_round" "check_round" s_check_round a_check_round d_check_round
  g_check_round : mg "check_round" = some (.ref a_check_round)
  b_check_round : Binds K d_check_round ["size", "splices"] []
  a_spliced : Addr
  d_spliced : FuncData
  F_spliced : Fun K "spliced" "spliced" s_spliced a_spliced d_spliced
  g_spliced : mg "spliced" = some (.ref a_spliced)
  b_spliced : Binds K d_spliced ["text", "splices"] []
  a_law_draws : Addr
  d_law_draws : FuncData
  F_law_draws : Fun K "_law_draws" "_law_draws" s_law_draws a_law_draws d_law_draws
  g_law_draws : mg "_law_draws" = some (.ref a_law_draws)
  b_law_draws : Binds K d_law_draws ["_law_script"] []
  a_law_take : Addr
  d_law_take : FuncData
  F_law_take : Fun K "_law_take" "_law_take" s_law_take a_law_take d_law_take
  g_law_take : mg "_law_take" = some (.ref a_law_take)
  b_law_take : Binds K d_law_take ["_law_flow", "_law_many"] []
  a_law_sign : Addr
  d_law_sign : FuncData
  F_law_sign : Fun K "_law_sign" "_law_sign" s_law_sign a_law_sign d_law_sign
  g_law_sign : mg "_law_sign" = some (.ref a_law_sign)
  b_law_sign : Binds K d_law_sign ["_law_flow", "_law_few"] []
  a_law_text : Addr
  d_law_text : FuncData
  F_law_text : Fun K "_law_text" "_law_text" s_law_text a_law_text d_law_text
  g_law_text : mg "_law_text" = some (.ref a_law_text)
  b_law_text : Binds K d_law_text ["_law_flow", "_law_size"] []
  a_law_picks : Addr
  d_law_picks : FuncData
  F_law_picks : Fun K "_law_picks" "_law_picks" s_law_picks a_law_picks d_law_picks
  g_law_picks : mg "_law_picks" = some (.ref a_law_picks)
  b_law_picks : Binds K d_law_picks ["_law_flow", "_law_size", "_law_most", "_law_gaps", "_law_sizes"] []
  a_law_put : Addr
  d_law_put : FuncData
  F_law_put : Fun K "_law_put" "_law_put" s_law_put a_law_put d_law_put
  g_law_put : mg "_law_put" = some (.ref a_law_put)
  b_law_put : Binds K d_law_put ["_law_body", "_law_given", "_law_put_here"] []
  a_law_cut : Addr
  d_law_cut : FuncData
  F_law_cut : Fun K "_law_cut" "_law_cut" s_law_cut a_law_cut d_law_cut
  g_law_cut : mg "_law_cut" = some (.ref a_law_cut)
  b_law_cut : Binds K d_law_cut ["_law_body", "_law_given", "_law_most", "_law_back"] []
  a_law_number : Addr
  d_law_number : FuncData
  F_law_number : Fun K "_law_number" "_law_number" s_law_number a_law_number d_law_number
  g_law_number : mg "_law_number" = some (.ref a_law_number)
  b_law_number : Binds K d_law_number ["_law_thing"] []
  a_law_splice_same : Addr
  d_law_splice_same : FuncData
  F_law_splice_same : Fun K "_law_splice_same" "_law_splice_same" s_law_splice_same a_law_splice_same d_law_splice_same
  g_law_splice_same : mg "_law_splice_same" = some (.ref a_law_splice_same)
  b_law_splice_same : Binds K d_law_splice_same ["_law_told", "_law_due"] []
  a_law_same : Addr
  d_law_same : FuncData
  F_law_same : Fun K "_law_same" "_law_same" s_law_same a_law_same d_law_same
  g_law_same : mg "_law_same" = some (.ref a_law_same)
  b_law_same : Binds K d_law_same ["_law_told", "_law_due"] []
  a_law_done : Addr
  d_law_done : FuncData
  F_law_done : Fun K "_law_done" "_law_done" s_law_done a_law_done d_law_done
  g_law_done : mg "_law_done" = some (.ref a_law_done)
  b_law_done : Binds K d_law_done ["_law_body", "_law_told", "_law_due"] []
  a_law : Addr
  d_law : FuncData
  F_law : Fun K "law" "law" s_law a_law d_law
  g_law : mg "law" = some (.ref a_law)
  b_law : Binds K d_law ["_law_script"] []
  kb_back_cuts_0 : KBinds K d_back_cuts ["picks", "text", "many"] ["many", "text", "picks"] (gk_back_cuts_0) (gk_back_cuts_0)
  kb_ahead_cuts_0 : KBinds K d_ahead_cuts ["picks", "text", "many"] ["many", "picks", "text"] (gk_ahead_cuts_0) (gk_ahead_cuts_0)
  kb_put_round_0 : KBinds K d_put_round ["picks", "text"] ["text", "picks"] (gk_put_round_0) (gk_put_round_0)
  c_BadSplice : Addr
  ai_BadSplice : Addr
  d_BadSplice : FuncData
  F_BadSplice : Fun K "__init__" "BadSplice.__init__" s_init_BadSplice ai_BadSplice d_BadSplice
  b_BadSplice : Binds K d_BadSplice ["self", "at"] []
  g_BadSplice : mg "BadSplice" = some (.ref c_BadSplice)
  o_BadSplice : OexC K c_BadSplice
  x_BadSplice : XfC K c_BadSplice
  i_BadSplice : PySem.W.findIn K (.ref c_BadSplice) "__init__" = some (some (.ref ai_BadSplice))
  ti_BadSplice : PySem.W.typeIn K (.ref ai_BadSplice) = some (.type "function")
  e_BadSplice : PySem.W.exmOne K (.ref c_BadSplice) (.ref c_BadSplice) = some true
  na_BadSplice_at : PySem.W.findIn K (.ref c_BadSplice) "at" = some none
  t_ALPHABET : Tok
  g_ALPHABET : mg "ALPHABET" = some (.str "\n !\"#$&'()*+,-./0123456789:;<=>?@ABCDEFGHIJKLMNOPQRSTUVWXYZ[\\]^_`abcdefghijklmnopqrstuvwxyz{|}~" t_ALPHABET)
  n_abs : mg "abs" = none
  n_bool : mg "bool" = none
  n_enumerate : mg "enumerate" = none
  n_int : mg "int" = none
  n_isinstance : mg "isinstance" = none
  n_len : mg "len" = none
  n_max : mg "max" = none
  n_min : mg "min" = none
  n_range : mg "range" = none
  n_set : mg "set" = none
  n_sorted : mg "sorted" = none
  n_str : mg "str" = none
  n_sum : mg "sum" = none
  n_tuple : mg "tuple" = none
  n_zip : mg "zip" = none
/-! the pool of draws -/
def ML : Int := 2147483587
abbrev flw := flow ML
section
variable {P : Program} {w : World} {K : PySem.W.Frag} {mg : Str → Option Value} {base : Heap}
theorem ok_law_draws (T : Txt K mg) : FnOk P w K mg base CX0 1 T.a_law_draws T.d_law_draws ["_law_script"] (spDrawsF ML K) := by
  refine T.F_law_draws.ok sc_law_draws (fun vs H Q E h => ?_) (fun cdv A outer s H vs Q E hr h => ?_)
  · obtain ⟨a, ns, rfl, _⟩ := h
    rfl
  · obtain ⟨a, ns, rfl, hS, hlen, q⟩ := h
    refine ⟨_, (pss_cons (ps_set (i := 1) sc_law_draws.nd rfl (Or.inl rfl) pe_int)
        (pss_cons (ps_set (i := 2) sc_law_draws.nd rfl (Or.inl rfl) (pe_lst pa_nil))
        (pss_cons (ps_for PassesOwn.never rfl (pi_list (pv 0)) (pg_name (i := 3) sc_law_draws.nd rfl (Or.inl rfl)) (pss_cons (ps_set (i := 4) sc_law_draws.nd rfl (Or.inl rfl) (pe_op op_addU (pe_op op_mul (pe_callB call_absU (by rfl) T.n_abs (by decide +kernel) (pa_cons (pe_callTy call_intU (by rfl) T.n_int (by decide +kernel) (pa_cons (pv 3) pa_nil)) pa_nil)) pe_int) (pe_callTy call_intU (by rfl) T.n_int (by decide +kernel) (pa_cons (pe_cmpR op_lt (pe_callTy call_intU (by rfl) T.n_int (by decide +kernel) (pa_cons (pv 3) pa_nil)) pe_int (nomark _)) pa_nil))))
        (pss_cons (ps_set (i := 1) sc_law_draws.nd rfl (Or.inl rfl) (pe_op op_modP (pe_callTy call_intU (by rfl) T.n_int (by decide +kernel) (pa_cons (pe_op op_addU (pe_op op_addU (pe_op op_mul (pv 1) pe_int) (pe_op op_modP (pe_callTy call_intU (by rfl) T.n_int (by decide +kernel) (pa_cons (pv 4) pa_nil)) pe_int)) pe_int) pa_nil)) pe_int))
        (pss_one (ps_if (pt_cmpR op_ge (pv 4) pe_int (nomark _)) (pss_one (ps_expr (pe_bm PySem.F.plainAttrs_list PySem.F.slot_list_append PySem.F.type_list_append mt_append (pv 2) (pa_cons (pv 4) pa_nil)))) pss_nil)))))
        (pss_one (ps_ret (pe_lst (pa_cons (pv 1) (pa_cons pe_int (pa_cons (pv 2) pa_nil))))))))), ?_⟩
    walk_at "rd"
    refine r_small nsz fun d hd => ?_
    have e0 : Ex H (upd H d (.lst [])) := Same.new (Same.refl H) hd
    walk_at "rd"
    refine l_L (SqL.up e0 hS) (fun i σ H' => ∃ z y1 y2 ds, σ = [some (.ref a), some (.int z), some (.ref d), y1, y2] ∧ 0 ≤ z ∧ z < ML ∧ Ex H H' ∧ H' d = some (.lst (List.map V.int ds)) ∧ ds.length ≤ i) ⟨_, none, none, [], rfl, by decide, by decide, e0, upd_same, Nat.le_refl _⟩ (fun i σ H' h => ?_) (fun i x σ H' hx hP => ?_) (fun σ H' hP => ?_)
    · obtain ⟨_, _, _, _, _, _, _, e, _⟩ := h
      exact SqL.up e hS
    · obtain ⟨z, y1, y2, ds, rfl, z0, z1, e, hd', hl⟩ := hP
      obtain ⟨c, hc, rfl⟩ := int_map hx
      have hi : i < ns.length := (List.getElem?_eq_some_iff.mp hc).1
      walk_at "rd"
      refine r_abs ?_
      walk_at "rd"
      refine r_I cmul_s ?_
      walk_at "rd"
      refine r_bool ?_
      walk_at "rd"
      refine r_I cmul_s ?_
      walk_at "rd"
      obtain ⟨C, hC⟩ : ∃ C : Int, C = 2000000000000000000 := ⟨_, rfl⟩
      rw [← hC]
      walk_at "rd"
      have mx : ∀ e : Int, 0 ≤ e % 2147483587 ∧ e % 2147483587 < ML := fun e => ⟨Int.emod_nonneg _ (by decide), Int.emod_lt_of_pos _ (by decide)⟩
      refine r_ite (fun hb => ?_) (fun hb => ?_)
      · walk_at "rd"
        refine r_tyL (sqL hd') ?_
        walk_at "rd"
        refine r_app hd' (by rw [List.length_map]; exact Nat.lt_of_le_of_lt (show ds.length ≤ 100 by omega) (by decide)) ?_
        walk_at "rd"
        exact ⟨_, _, _, ds ++ [_], rfl, (mx _).1, (mx _).2, Same.mut e hd, by rw [upd_same, List.map_append]; rfl, by rw [List.length_append]; simp; omega⟩
      · walk_at "rd"
        exact ⟨_, _, _, ds, rfl, (mx _).1, (mx _).2, e, hd', by omega⟩
    · obtain ⟨z, y1, y2, ds, rfl, z0, z1, e, hd', hl⟩ := hP
      rw [List.length_map] at hl
      walk_at "rd"
      refine r_small nsz fun f hf => ?_
      have hne : f ≠ d := fun z => by rw [z, hd'] at hf; cases hf
      exact q f d _ (e.trans (Same.new (Same.refl _) hf)) (e.free hf) hd ⟨Ne.symm hne, z, 0, ds, upd_same, by rw [upd_ne (Ne.symm hne)]; exact hd', by omega, z0, z1⟩
theorem ok_law_take (T : Txt K mg) : FnOk P w K mg base CX0 1 T.a_law_take T.d_law_take ["_law_flow", "_law_many"] (spTakeF ML) := by
  refine T.F_law_take.ok sc_law_take (fun vs H Q E h => ?_) (fun cdv A outer s H vs Q E hr h => ?_)
  · obtain ⟨p, d, n, rfl, _⟩ := h
    rfl
  · obtain ⟨f, p, n, rfl, ⟨ne, z, k, ns, hf, hp, hl, z0, z1⟩, n0, n1, q⟩ := h
    refine ⟨_, (pss_cons (ps_set (i := 2) sc_law_take.nd rfl (Or.inl rfl) (pe_ix ix_seq (pv 0) pe_int (fun _ _ => rfl)))
        (pss_cons (ps_if (pt_cmpR op_gt (pe_callB call_lenU (by rfl) T.n_len (by decide +kernel) (pa_cons (pv 2) pa_nil)) pe_int (nomark _)) (pss_cons (ps_set (i := 3) sc_law_take.nd rfl (Or.inl rfl) (pe_op op_modP (pe_callTy call_intU (by rfl) T.n_int (by decide +kernel) (pa_cons (pe_ix ix_seq (pv 2) pe_int (fun _ _ => rfl)) pa_nil)) (pv 1)))
        (pss_cons (ps_asg (pe_op op_divW (pe_ix ix_seq (pv 2) pe_int (fun _ _ => rfl)) (pv 1)) (pg_sub (pv 2) pe_int set_list))
        (Evl.pss_cut (ps_if (pt_cmpR (op_eqU hr.units) (pe_ix ix_seq (pv 2) pe_int (fun _ _ => rfl)) pe_int (nomark _)) (pss_one (ps_expr (pe_bm PySem.F.plainAttrs_list PySem.F.slot_list_pop PySem.F.type_list_pop mt_popAt (pv 2) (pa_cons pe_int pa_nil)))) pss_nil)
        (pss_one (ps_ret (pv 3)))))) pss_nil)
        (pss_cons (ps_asg (pe_op op_addU (pe_ix ix_seq (pv 0) pe_int (fun _ _ => rfl)) pe_int) (pg_sub (pv 0) pe_int set_list))
        (pss_cons (ps_asg (pe_op op_modP (pe_callTy call_intU (by rfl) T.n_int (by decide +kernel) (pa_cons (pe_op op_addU (pe_op op_addU (pe_op op_mul (pe_ix ix_seq (pv 0) pe_int (fun _ _ => rfl)) pe_int) (pe_op op_mul (pe_ix ix_seq (pv 0) pe_int (fun _ _ => rfl)) pe_int)) pe_int) pa_nil)) pe_int) (pg_sub (pv 0) pe_int set_list))
        (pss_one (ps_ret (pe_op op_modP (pe_callTy call_intU (by rfl) T.n_int (by decide +kernel) (pa_cons (pe_op op_modP (pe_callTy call_intU (by rfl) T.n_int (by decide +kernel) (pa_cons (pe_op op_addU (pe_op op_divW (pe_ix ix_seq (pv 0) pe_int (fun _ _ => rfl)) pe_int) (pe_op op_mul (pe_ix ix_seq (pv 0) pe_int (fun _ _ => rfl)) pe_int)) pa_nil)) pe_int) pa_nil)) (pv 1)))))))), ?_⟩
    have q' : ∀ (v : Int) H', 0 ≤ v → v < n → Drw (flow ML f p) H H' → Q (.int v) H' := fun v H' h0 h1 D => by
      obtain ⟨m, rfl⟩ := Int.eq_ofNat_of_zero_le h0
      exact q m H' h1 D
    have w20 : n.natAbs < 2 ^ 20 := by
      have e : (2 : Nat) ^ 20 = 1048576 := by decide
      omega
    walk_at "rd"
    refine r_ixL (sqL hf) (atI_nat (j := 2) rfl) ?_
    walk_at "rd"
    refine r_lenL (sqL hp) ?_
    walk_at "rd"
    cases ns with
    | cons c ns =>
      refine r_ite (fun _ => ?_) (fun hn => absurd (by simp) hn)
      walk_at "rd"
      refine r_ixL (sqL hp) (atI_nat (j := 0) rfl) ?_
      walk_at "rd"
      refine r_modP n0 ?_
      walk_at "rd"
      refine r_ixL (sqL hp) (atI_nat (j := 0) rfl) ?_
      walk_at "rd"
      refine r_divW ⟨n0, (wide_div (i := 0) n0 w20 (by decide) (by decide)).2⟩ ?_
      walk_at "rd"
      refine r_setL hp (n := 0) (ixN_nat (Int.le_refl 0) (by rw [List.length_map, List.length_cons]; omega)) ?_
      walk_at "rs"
      have D1 : ∀ (ms : List Int), ms.length ≤ 63 → ∀ H1, H1 f = some (.lst [.int z, .int k, .ref p]) → H1 p = some (.lst (ms.map V.int)) → (∀ x o, x ≠ f → x ≠ p → H x = some o → H1 x = some o) → Drw (flow ML f p) H H1 := fun ms hm H1 e1 e2 e3 => ⟨fun x o h e => e3 x o (fun z => h (.inl z)) (fun z => h (.inr z)) e, ne, z, k, ms, e1, e2, hm, z0, z1⟩
      refine ⟨fun σ H1 => σ = [some (.ref f), some (.int n), some (.ref p), some (.int (c % n))] ∧ Drw (flow ML f p) H H1, ?_, ?_⟩
      · walk_at "rd"
        refine r_ixL (sqL upd_same) (atI_nat (j := 0) rfl) ?_
        walk_at "rd"
        refine r_ite (fun h0 => ?_) (fun h0 => ?_)
        · walk_at "rd"
          refine r_tyL (sqL upd_same) ?_
          walk_at "rd"
          refine r_pop0 upd_same ?_
          walk_at "rd"
          refine ⟨rfl, D1 ns (by simp at hl; omega) _ ?_ ?_ ?_⟩
          · rw [upd_ne (Ne.symm ne), upd_ne (Ne.symm ne)]; exact hf
          · rw [upd_same]
          · intro x o h1 h2 e
            rw [upd_ne h2, upd_ne h2]
            exact e
        · walk_at "rd"
          refine ⟨rfl, D1 (c / n :: ns) (by simpa using hl) _ ?_ ?_ ?_⟩
          · rw [upd_ne (Ne.symm ne)]; exact hf
          · rw [upd_same]; rfl
          · intro x o h1 h2 e
            rw [upd_ne h2]
            exact e
      · rintro σ H1 ⟨rfl, D⟩
        walk_at "rd"
        exact q' _ _ (Int.emod_nonneg _ (by omega)) (Int.emod_lt_of_pos _ n0) D
    | nil =>
      refine r_ite (fun hn => absurd hn (by simp)) (fun _ => ?_)
      walk_at "rd"
      refine r_ixL (sqL hf) (atI_nat (j := 1) rfl) ?_
      walk_at "rd"
      refine r_setL hf (n := 1) rfl ?_
      walk_at "rd"
      refine r_ixL (sqL upd_same) (atI_nat (j := 0) rfl) ?_
      walk_at "rd"
      refine r_I cmul_s ?_
      walk_at "rd"
      refine r_ixL (sqL upd_same) (atI_nat (j := 1) rfl) ?_
      walk_at "rd"
      refine r_I cmul_s ?_
      walk_at "rd"
      refine r_setL upd_same (n := 0) rfl ?_
      walk_at "rd"
      refine r_ixL (sqL upd_same) (atI_nat (j := 0) rfl) ?_
      walk_at "rd"
      refine r_divW (wide_div (b := 17) (by decide) (by decide) (by decide) (by decide)) ?_
      walk_at "rd"
      refine r_ixL (sqL upd_same) (atI_nat (j := 0) rfl) ?_
      walk_at "rd"
      refine r_I cmul_s ?_
      walk_at "rd"
      refine r_modP n0 ?_
      refine q' _ _ (Int.emod_nonneg _ (by omega)) (Int.emod_lt_of_pos _ n0) ⟨fun x o h e => by rw [upd_ne (fun z => h (.inl z)), upd_ne (fun z => h (.inl z))]; exact e, ne, _, _, [], upd_same, by rw [upd_ne ne, upd_ne ne]; exact hp, by simp, Int.emod_nonneg _ (by decide), Int.emod_lt_of_pos _ (by decide)⟩
end
end K46

namespace K46
open PySem PySem.Spec PyProof.Rows L2 Dk Q46
/-- one step of a reading -/
local macro_rules | `(tactic| walk_at "rd1") => `(tactic| first
  | ((with_reducible refine r_var (v := ?rv) ?rh ?_); (case rh => rfl))
  | with_reducible refine r_c ?_
  | with_reducible refine r_seq ?_
  | with_reducible refine r_asg ?_
  | with_reducible refine r_par ?_
  | with_reducible refine r_gname ?_
  | with_reducible refine r_op ?_
  | with_reducible refine r_forLo ?_
  | with_reducible refine r_forTo ?_
  | with_reducible refine r_forSo ?_
  | with_reducible refine r_forRo ?_
  | with_reducible refine r_forRvo ?_
  | with_reducible refine r_forZo ?_
  | with_reducible refine r_revS ?_
  | with_reducible refine r_lcRo ?_
  | with_reducible refine r_lcLo ?_
  | with_reducible refine r_yes ?_
  | with_reducible refine r_callK0 ?_
  | with_reducible refine r_break ?_
  | with_reducible refine r_continue ?_
  | with_reducible refine r_forR2o ?_
  | with_reducible refine r_forEo ?_
  | with_reducible refine r_forESo ?_
  | with_reducible refine r_xfo ?_
  | with_reducible refine r_noP ?_
  | with_reducible refine r_part ?_
  | with_reducible refine r_pI ?_
  | with_reducible refine r_gcons ?_
  | with_reducible refine r_gnil ?_
  | with_reducible refine r_mkO ?_
  | with_reducible refine r_un ?_
  | with_reducible refine r_addI ?_
  | with_reducible refine r_I0 ?_
  | with_reducible refine r_U ?_
  | with_reducible refine r_cons ?_
  | with_reducible refine r_nil ?_
  | with_reducible refine r_CB ?_
  | with_reducible refine r_call ?_
  | with_reducible refine r_callS ?_
  | with_reducible refine r_int ?_
  | with_reducible refine r_max ?_
  | with_reducible refine r_min ?_
  | with_reducible refine r_test ?_
  | with_reducible refine r_B ?_
  | with_reducible refine r_blv ?_
  | with_reducible refine r_and ?_
  | with_reducible refine r_or ?_
  | with_reducible refine r_not ?_
  | with_reducible refine r_andV ?_
  | with_reducible refine r_orV ?_
  | with_reducible refine r_notV ?_
  | with_reducible refine r_ifE ?_
  | with_reducible refine r_ifS ?_
  | with_reducible refine r_ret ?_
  | with_reducible refine r_retN ?_
  | with_reducible refine r_drop ?_
  | with_reducible refine r_next ?_
  | with_reducible refine r_sl ?_
  | with_reducible refine r_gsub ?_
  | with_reducible refine r_bm ?_
  | with_reducible refine r_bm0 ?_
  | with_reducible refine r_tup ?_
  | with_reducible refine r_lst ?_
  | with_reducible refine r_isN ?_
  | with_reducible refine r_notN ?_
  | with_reducible refine r_chain ?_
  | with_reducible refine r_callK ?_
  | with_reducible refine r_isB ?_
  | with_reducible refine r_lcEio ?_
  | with_reducible refine r_forEi ?_
  | with_reducible refine r_lcTo ?_
  | with_reducible refine r_lcSo ?_
  | with_reducible refine r_m1 ?_
  | with_reducible refine r_dget ?_
  | with_reducible refine r_din ?_
  | with_reducible refine r_dnotin ?_
  | with_reducible refine r_starC ?_
  | with_reducible refine r_callKS ?_
  | with_reducible refine r_itt ?_
  | with_reducible refine r_iff ?_
  | with_reducible refine r_ittN ?_
  | with_reducible refine r_iffN ?_
  | ((with_reducible refine r_ittD ?rh ?_); (case rh => rfl))
  | ((with_reducible refine r_iffD ?rh ?_); (case rh => rfl))
  | ((with_reducible refine r_modP ?rh ?_); (case rh => decide))
  | ((with_reducible refine r_eq ?rh ?_); (case rh => rfl))
  | ((with_reducible refine r_eqP ?rh ?_); (case rh => rfl))
  | ((with_reducible refine r_ne ?rh ?_); (case rh => rfl)))
local macro_rules | `(tactic| walk_at "rd") => `(tactic| repeat walk_at "rd1")
local macro_rules | `(tactic| walk_at "isi") => `(tactic| first | refine r_isi (b := true) (by assumption) (by decide +kernel) ?_ | refine r_isi (b := false) (by assumption) (by decide +kernel) ?_)
local macro_rules | `(tactic| walk_at "rs1") => `(tactic| first
  | with_reducible refine r_seq ?_
  | with_reducible refine r_asg ?_
  | with_reducible refine r_gname ?_
  | with_reducible refine r_ret ?_)
local macro_rules | `(tactic| walk_at "rs") => `(tactic| repeat walk_at "rs1")

abbrev Sp3 := Int × Int × Str
def TrS (H : Hp) (v : V) (x : Sp3) : Prop := ∃ p : Addr, v = .ref p ∧ H p = some (.tup [.int x.1, .int x.2.1, .str x.2.2])
instance : Imm TrS := ⟨fun t h => h.imp fun p z => ⟨z.1, t _ _ z.2⟩⟩
def IV (H : Hp) (v : V) (n : Int) : Prop := v = .int n
instance : Imm IV := ⟨fun _ h => h⟩
theorem iv_map {H : Hp} : ∀ ns : List Int, P2 (IV H) (ns.map V.int) ns
  | [] => .nil
  | n :: ns => .cons rfl (iv_map ns)
/-- splices and carets, as they are answered -/
def EntV (K : PySem.W.Frag) (H : Hp) (v : V) (S : List Sp3) (C : List Int) : Prop := ∃ (p : Addr) (a b : V), v = .ref p ∧ H p = some (.tup [a, b]) ∧ TupV K TrS H a S ∧ TupV K IV H b C
def spLH : Sp := fun vs H Q _ => ∃ (v : V) (a : Iv), vs = [v] ∧ PrV H v a ∧ ∀ u H', Ex H H' → PrV H' u (lo a, hi a) → Q u H'
def spJn (K : PySem.W.Frag) : Sp := fun vs H Q _ => ∃ (p : Addr) (xs : List V) (l : List Iv), vs = [.ref p] ∧ SqL K H p xs ∧ PrL H xs l ∧ l.length ≤ 1000 ∧ ∀ v H' m, Ex H H' → m.Pairwise Pk.Lx → m.Perm l → TupV K PrV H' v (jn m) → Q v H'
def spPutT (K : PySem.W.Frag) : Sp := fun vs H Q _ => ∃ (a b : Addr) (xs : List V) (T : List Iv) (t : Str), vs = [.ref a, .ref b] ∧ Tu K H a xs ∧ PrL H xs T ∧ H b = some (.lst (List.replicate T.length (.str t))) ∧ T.length ≤ 1000 ∧ t.length ≤ 1000 ∧
  ∀ v H' C, Ex H H' → SS (cars t.length T) C → EntV K H' v (spls (decide (t ≠ "")) t T) C → Q v H'
theorem mg_len : ∀ (r : List Iv) (l : Iv), (Pk.mg l r).length ≤ r.length + 1
  | [], l => Nat.le_refl _
  | s :: r, l => by
    unfold Pk.mg
    split
    · exact Nat.le_succ_of_le (mg_len r _)
    · exact Nat.succ_le_succ (mg_len r s)
theorem jn_len (l : List Iv) : (jn l).length ≤ l.length := by
  cases l with
  | nil => exact Nat.le_refl _
  | cons s r => exact mg_len r s
section
variable {P : Program} {w : World} {K : PySem.W.Frag} {mg : Str → Option Value} {base : Heap}
theorem ok_low_high (T : Txt K mg) : FnOk P w K mg base CX0 1 T.a_low_high T.d_low_high ["pick"] spLH := by
  refine T.F_low_high.ok sc_low_high (fun vs H Q E h => ?_) (fun cdv A outer s H vs Q E hr h => ?_)
  · obtain ⟨v, a, rfl, _⟩ := h
    rfl
  · obtain ⟨v, a, rfl, ha, q⟩ := h
    refine ⟨_, (pss_cons (ps_asg (pv 0) (pg_tup rfl (pgs_cons (pg_name (i := 1) sc_low_high.nd rfl (Or.inl rfl)) (pgs_cons (pg_name (i := 2) sc_low_high.nd rfl (Or.inl rfl)) pgs_nil))))
        (pss_one (ps_ret (pe_tup (pa_cons (pe_callB (call_minU rfl) (by rfl) T.n_min (by decide +kernel) (pa_cons (pv 1) (pa_cons (pv 2) pa_nil))) (pa_cons (pe_callB (call_maxU rfl) (by rfl) T.n_max (by decide +kernel) (pa_cons (pv 1) (pa_cons (pv 2) pa_nil))) pa_nil)))))), ?_⟩
    walk_at "rd"
    refine r_gPr ha ?_
    walk_at "rd"
    exact r_mkPr fun p H2 hp e e2 hp2 => q _ _ e2 hp2
theorem ok_joined_stretches (T : Txt K mg) : FnOk P w K mg base CX0 1 T.a_joined_stretches T.d_joined_stretches ["stretches"] (spJn K) := by
  refine T.F_joined_stretches.ok sc_joined_stretches (fun vs H Q E h => ?_) (fun cdv A outer s H vs Q E hr h => ?_)
  · obtain ⟨p, xs, l, rfl, _⟩ := h
    rfl
  · obtain ⟨p, xs, l, rfl, hp, hx, hlen, q⟩ := h
    refine ⟨_, (pss_cons (ps_set (i := 1) sc_joined_stretches.nd rfl (Or.inl rfl) (pe_lst pa_nil))
        (pss_cons (ps_for PassesOwn.never rfl (pi_list (pe_callB cr_sortedPO (by rfl) T.n_sorted (by decide +kernel) (pa_cons (pv 0) pa_nil))) (pg_tup rfl (pgs_cons (pg_name (i := 2) sc_joined_stretches.nd rfl (Or.inl rfl)) (pgs_cons (pg_name (i := 3) sc_joined_stretches.nd rfl (Or.inl rfl)) pgs_nil))) (pss_one (ps_if (PW.pt (pw_and (pt_cmpR op_gt (pe_callB call_lenU (by rfl) T.n_len (by decide +kernel) (pa_cons (pv 1) pa_nil)) pe_int (nomark _)) (pw_and1 (pt_cmpR op_le (pv 2) (pe_ix ix_seq (pe_ix ix_seq (pv 1) (pe_un un_neg pe_int) (fun _ _ => rfl)) pe_int (fun _ _ => rfl)) (nomark _))))) (pss_cons (ps_asg (pe_bm0 PySem.F.plainAttrs_list PySem.F.slot_list_pop PySem.F.type_list_pop mt_pop (pv 1)) (pg_tup rfl (pgs_cons (pg_name (i := 4) sc_joined_stretches.nd rfl (Or.inl rfl)) (pgs_cons (pg_name (i := 5) sc_joined_stretches.nd rfl (Or.inl rfl)) pgs_nil))))
        (pss_one (ps_expr (pe_bm PySem.F.plainAttrs_list PySem.F.slot_list_append PySem.F.type_list_append mt_append (pv 1) (pa_cons (pe_tup (pa_cons (pv 4) (pa_cons (pe_callB (call_maxU rfl) (by rfl) T.n_max (by decide +kernel) (pa_cons (pv 5) (pa_cons (pv 3) pa_nil))) pa_nil))) pa_nil))))) (pss_one (ps_expr (pe_bm PySem.F.plainAttrs_list PySem.F.slot_list_append PySem.F.type_list_append mt_append (pv 1) (pa_cons (pe_tup (pa_cons (pv 2) (pa_cons (pv 3) pa_nil))) pa_nil)))))))
        (pss_one (ps_ret (pe_callTy call_tupU (by rfl) T.n_tuple (by decide +kernel) (pa_cons (pv 1) pa_nil)))))), ?_⟩
    walk_at "rd"
    refine r_small nsz fun F hF => ?_
    have eF : Ex H (upd H F (.lst [])) := Same.new (Same.refl H) hF
    walk_at "rd"
    refine r_sortPr (SqL.up eF hp) (prl_imm (.ex eF) hx) fun ys m d hy pw pm hd => ?_
    have eD : Ex H (upd (upd H F (.lst [])) d (.lst ys)) := eF.trans (Same.new (Same.refl _) hd)
    have hdH : H d = none := eF.free hd
    have ml : m.length ≤ 1000 := by rw [pm.length_eq]; exact hlen
    have neF : F ≠ d := fun z => by rw [← z, upd_same] at hd; cases hd
    refine l_L (sqL upd_same) (fun i σ H' => ∃ y2 y3 y4 y5 fs Fl, σ = [some (.ref p), some (.ref F), y2, y3, y4, y5] ∧ Ex H H' ∧ H' d = some (.lst ys) ∧ PrL H' ys m ∧ H' F = some (.lst fs) ∧ PrL H' fs Fl ∧ At m i Fl ∧ fs.length ≤ i) ⟨none, none, none, none, [], [], rfl, eD, upd_same, prl_imm (.new hd) hy, by rw [upd_ne neF, upd_same], .nil, At.start, Nat.le_refl _⟩ (fun i σ H' h => ?_) (fun i x σ H' hx hP => ?_) (fun σ H' hP => ?_)
    · obtain ⟨_, _, _, _, _, _, _, _, h, _⟩ := h
      exact sqL h
    · obtain ⟨y2, y3, y4, y5, fs, Fl, rfl, e, gd, hm, gF, hFl, hat, fl⟩ := hP
      obtain ⟨st, hst, hr'⟩ := hm.get hx
      have il : i < m.length := (List.getElem?_eq_some_iff.mp hst).1
      refine r_gPr hr' ?_
      walk_at "rd"
      refine r_lenL (sqL gF) ?_
      walk_at "rd"
      have fin : ∀ (H5 : Hp) (fs' : List V) (Fl' : List Iv) (a b c e' : Option V), Ex H H5 → H5 d = some (.lst ys) → PrL H5 ys m → H5 F = some (.lst fs') → PrL H5 fs' Fl' → At m (i + 1) Fl' → fs'.length ≤ i + 1 → ∃ y2 y3 y4 y5 fs Fl, ([some (.ref p), some (.ref F), a, b, c, e'] : L2.St) = [some (.ref p), some (.ref F), y2, y3, y4, y5] ∧ Ex H H5 ∧ H5 d = some (.lst ys) ∧ PrL H5 ys m ∧ H5 F = some (.lst fs) ∧ PrL H5 fs Fl ∧ At m (i + 1) Fl ∧ fs.length ≤ i + 1 :=
        fun H5 fs' Fl' a b c e' h1 h2 h3 h4 h5 h6 h7 => ⟨a, b, c, e', fs', Fl', rfl, h1, h2, h3, h4, h5, h6, h7⟩
      rcases hat with ⟨rfl, rfl⟩ | ⟨Pf, z, rfl, hj⟩
      · cases hFl
        walk_at "rd"
        refine r_tyL (sqL gF) ?_
        walk_at "rd"
        refine r_small nsz fun t ht => ?_
        obtain ⟨H2, k2, e2, hv⟩ := newPr ht st.1 st.2
        rw [← k2]
        walk_at "rd"
        refine r_app (e2 _ _ gF) (by decide) ?_
        walk_at "rd"
        have tk : Tk H2 (upd H2 F (.lst ([] ++ [.ref t]))) := .put (e2 _ _ gF)
        exact fin _ _ [st] _ _ _ _ (Same.mut (e.trans e2) hF) (by rw [upd_ne (Ne.symm neF)]; exact e2 _ _ gd) (prl_imm tk (prl_imm (.ex e2) hm)) upd_same (.cons (imm tk hv) .nil) (at_first hst) (Nat.le_refl _)
      · obtain ⟨s1, s2⟩ := at_step hj hst
        have flen := hFl.len
        obtain ⟨fs0, vz, rfl, hP0, hz⟩ : ∃ fs0 vz, fs = fs0 ++ [vz] ∧ PrL H' fs0 Pf ∧ PrV H' vz z := by
          rw [List.length_append, List.length_singleton] at flen
          have ne : fs ≠ [] := fun z => by rw [z] at flen; simp at flen
          refine ⟨fs.dropLast, fs.getLast ne, (List.dropLast_concat_getLast ne).symm, ?_, ?_⟩
          · have h1 := hFl.take Pf.length
            rw [List.take_left' rfl] at h1
            rw [List.dropLast_eq_take, flen, Nat.add_sub_cancel]
            exact h1
          · obtain ⟨a, ha, hr⟩ := hFl.get' (i := Pf.length) (b := z) (by simp)
            have h3 : fs[fs.length - 1]? = some (fs.getLast ne) := by rw [← List.getLast?_eq_getElem?]; exact List.getLast?_eq_some_getLast ne
            rw [flen, Nat.add_sub_cancel, ha] at h3
            rw [← Option.some.inj h3]
            exact hr
        refine r_ite (fun _ => ?_) (fun hn => absurd (by rw [List.length_append]; simp) hn)
        walk_at "rd"
        refine r_ixL (sqL gF) (atI_last _ _) ?_
        walk_at "rd"
        refine r_ixPr1 hz ?_
        walk_at "rd"
        refine r_ite (fun hle => ?_) (fun hle => ?_)
        · walk_at "rd"
          refine r_tyL (sqL gF) ?_
          refine r_popE gF ?_
          have tk1 : Tk H' (upd H' F (.lst fs0)) := .put gF
          refine r_gPr (imm tk1 hz) ?_
          walk_at "rd"
          refine r_tyL (sqL upd_same) ?_
          walk_at "rd"
          refine r_small nsz fun t ht => ?_
          obtain ⟨H2, k2, e2, hv⟩ := newPr ht z.1 (max z.2 st.2)
          rw [← k2]
          walk_at "rd"
          refine r_app (e2 _ _ upd_same) (Nat.lt_of_le_of_lt (show fs0.length ≤ 1000 by rw [List.length_append] at fl; omega) (by decide)) ?_
          walk_at "rd"
          have tk : Tk H2 (upd H2 F (.lst (fs0 ++ [.ref t]))) := .put (e2 _ _ upd_same)
          exact fin _ _ _ _ _ _ _ (Same.mut ((Same.mut e hF).trans e2) hF) (by rw [upd_ne (Ne.symm neF)]; exact e2 _ _ (by rw [upd_ne (Ne.symm neF)]; exact gd)) (prl_imm ((tk1.trans (.ex e2)).trans tk) hm) upd_same ((prl_imm ((tk1.trans (.ex e2)).trans tk) hP0).snoc (imm tk hv)) (s1 hle) (by rw [List.length_append] at fl ⊢; simp at fl ⊢; omega)
        · walk_at "rd"
          refine r_tyL (sqL gF) ?_
          walk_at "rd"
          refine r_small nsz fun t ht => ?_
          obtain ⟨H2, k2, e2, hv⟩ := newPr ht st.1 st.2
          rw [← k2]
          walk_at "rd"
          refine r_app (e2 _ _ gF) (Nat.lt_of_le_of_lt (show (fs0 ++ [vz]).length ≤ 1000 by omega) (by decide)) ?_
          walk_at "rd"
          have tk : Tk H2 (upd H2 F (.lst (fs0 ++ [vz] ++ [.ref t]))) := .put (e2 _ _ gF)
          exact fin _ _ _ _ _ _ _ (Same.mut (e.trans e2) hF) (by rw [upd_ne (Ne.symm neF)]; exact e2 _ _ gd) (prl_imm tk (prl_imm (.ex e2) hm)) upd_same ((prl_imm (.trans (.ex e2) tk) hFl).snoc (imm tk hv)) (s2 hle) (by have h := fl; simp at h ⊢; omega)
    · obtain ⟨y2, y3, y4, y5, fs, Fl, rfl, e, gd, hm, gF, hFl, hat, fl⟩ := hP
      have hd' := hat.done (by rw [hm.len]; exact Nat.le_refl _)
      walk_at "rd"
      refine r_tupLV gF hFl fun p2 H2 hp2 e2 hv => ?_
      rw [hd'] at hv
      exact q _ _ m (e.trans e2) pw pm hv
theorem ok_put_texts (T : Txt K mg) : FnOk P w K mg base CX0 2 T.a_put_texts T.d_put_texts ["picks", "texts"] (spPutT K) := by
  refine T.F_put_texts.ok sc_put_texts (fun vs H Q E h => ?_) (fun cdv A outer s H vs Q E hr h => ?_)
  · obtain ⟨a, b, xs, Ts, t, rfl, _⟩ := h
    rfl
  · obtain ⟨a, b, xs, Ts, t, rfl, ha, hx, hb, hl, ht, q⟩ := h
    refine ⟨_, (pss_cons (ps_set (i := 2) sc_put_texts.nd rfl (Or.inl rfl) (pe_lst pa_nil))
        (pss_cons (ps_set (i := 3) sc_put_texts.nd rfl (Or.inl rfl) (pe_lst pa_nil))
        (pss_cons (ps_set (i := 4) sc_put_texts.nd rfl (Or.inl rfl) pe_int)
        (pss_cons (ps_for PassesOwn.never rfl (Zp.pi_zipK (by rfl) T.n_zip (pa_cons (pv 0) (pa_cons (pv 1) pa_nil))) (pg_tup rfl (pgs_cons (pg_name (i := 5) sc_put_texts.nd rfl (Or.inl rfl)) (pgs_cons (pg_name (i := 6) sc_put_texts.nd rfl (Or.inl rfl)) pgs_nil))) (pss_cons (ps_asg (pe_call (ok_low_high T) hr (by rfl) T.g_low_high T.F_low_high.kp T.b_low_high .nil pass0 (pa_cons (pv 5) pa_nil)) (pg_tup rfl (pgs_cons (pg_name (i := 7) sc_put_texts.nd rfl (Or.inl rfl)) (pgs_cons (pg_name (i := 8) sc_put_texts.nd rfl (Or.inl rfl)) pgs_nil))))
        (Evl.pss_cut (ps_if (PW.pt (pw_or (pt_cmpR op_gt (pv 8) (pv 7) (nomark _)) (pw_or1 (pt_cmpR (op_neU hr.units) (pv 6) pe_str (nomark _))))) (pss_one (ps_expr (pe_bm PySem.F.plainAttrs_list PySem.F.slot_list_append PySem.F.type_list_append mt_append (pv 2) (pa_cons (pe_tup (pa_cons (pv 7) (pa_cons (pe_op op_sub (pv 8) (pv 7)) (pa_cons (pv 6) pa_nil)))) pa_nil)))) pss_nil)
        (pss_cons (ps_aug (i := 4) sc_put_texts.nd rfl (Or.inl rfl) (pe_op op_sub (pe_callB call_lenU (by rfl) T.n_len (by decide +kernel) (pa_cons (pv 6) pa_nil)) (pe_op op_sub (pv 8) (pv 7))) ip_add)
        (pss_one (ps_expr (pe_bm PySem.F.plainAttrs_list PySem.F.slot_list_append PySem.F.type_list_append mt_append (pv 3) (pa_cons (pe_op op_addU (pv 8) (pv 4)) pa_nil))))))))
        (pss_one (ps_ret (pe_tup (pa_cons (pe_callTy call_tupU (by rfl) T.n_tuple (by decide +kernel) (pa_cons (pv 2) pa_nil)) (pa_cons (pe_callTy call_tupU (by rfl) T.n_tuple (by decide +kernel) (pa_cons (pe_callB (Sx.cr_sortSU rfl) (by rfl) T.n_sorted (by decide +kernel) (pa_cons (pe_callTy (Sx.cr_setL rfl) (by rfl) T.n_set (by decide +kernel) (pa_cons (pv 3) pa_nil)) pa_nil)) pa_nil)) pa_nil))))))))), ?_⟩
    have xl := hx.len
    have tl : t.length ≤ sizeLine := by rw [sizeLine_eq]; omega
    walk_at "rd"
    refine r_small nsz fun S hS => ?_
    have eS : Ex H (upd H S (.lst [])) := Same.new (Same.refl H) hS
    walk_at "rd"
    refine r_small nsz fun C hC => ?_
    have eC : Ex H (upd (upd H S (.lst [])) C (.lst [])) := eS.trans (Same.new (Same.refl _) hC)
    have hCH := eS.free hC
    have neSC : S ≠ C := fun z => by rw [← z, upd_same] at hC; cases hC
    walk_at "rd"
    refine l_ZTL (ha.up eC).sq (sqL (eC _ _ hb)) (by rw [xl, List.length_replicate]) (fun i σ H' => ∃ y5 y6 y7 y8 ss, σ = [some (.ref a), some (.ref b), some (.ref S), some (.ref C), some (.int (shf t.length (Ts.take i))), y5, y6, y7, y8] ∧ Ex H H' ∧ H' S = some (.lst ss) ∧ P2 (TrS H') ss (spls (decide (t ≠ "")) t (Ts.take i)) ∧ H' C = some (.lst ((cars t.length (Ts.take i)).map V.int)))
      ⟨none, none, none, none, [], by rfl, eC, by rw [upd_ne neSC, upd_same], .nil, upd_same⟩ (fun i σ H' h => ?_) (fun i x y σ H' p hx' hy' hP hp => ?_) (fun σ H' hP => ?_)
    · obtain ⟨_, _, _, _, _, _, e, _⟩ := h
      exact ⟨(ha.up e).sq, sqL (e _ _ hb)⟩
    · obtain ⟨y5, y6, y7, y8, ss, rfl, e, gS, hss, gC⟩ := hP
      obtain ⟨pk, hpk, hr'⟩ := hx.get hx'
      have il : i < Ts.length := (List.getElem?_eq_some_iff.mp hpk).1
      obtain rfl : y = .str t := by
        rw [List.getElem?_replicate, if_pos il] at hy'
        exact (Option.some.inj hy').symm
      have tk1 : Ts.take (i + 1) = Ts.take i ++ [pk] := by rw [List.take_add_one, hpk]; rfl
      have e1 : Ex H' (upd H' p (.tup [x, .str t])) := Same.new (Same.refl _) hp
      generalize hH1 : upd H' p (.tup [x, .str t]) = H1 at e1 ⊢
      have g1 : H1 p = some (.tup [x, .str t]) := by rw [← hH1, upd_same]
      refine r_gtup (sqT g1) rfl ?_
      walk_at "rd"
      refine ⟨x, pk, rfl, imm (.ex (e.trans e1)) hr', fun u H2 e2 hu => ?_⟩
      have e12 := e1.trans e2
      refine r_gPr hu ?_
      walk_at "rd"
      refine ⟨fun σ H3 => ∃ ss', σ = [some (.ref a), some (.ref b), some (.ref S), some (.ref C), some (.int (shf t.length (Ts.take i))), some x, some (.str t), some (.int (lo pk)), some (.int (hi pk))] ∧ Ex H H3 ∧ H3 S = some (.lst ss') ∧ P2 (TrS H3) ss' (spls (decide (t ≠ "")) t (Ts.take (i + 1))) ∧ H3 C = some (.lst ((cars t.length (Ts.take i)).map V.int)), ?_, ?_⟩
      · have sl : ss.length ≤ 1000 := by
          rw [hss.len]
          refine Nat.le_trans (List.length_filterMap_le _ _) ?_
          rw [List.length_take]
          omega
        have yes : (decide (lo pk < hi pk) || decide (t ≠ "")) = true → ∀ H3 : Hp, Ex H2 H3 → H3 S = some (.lst ss) → ∀ p3, H3 p3 = some (.tup [.int (lo pk), .int (hi pk - lo pk), .str t]) → ∃ ss', ([some (.ref a), some (.ref b), some (.ref S), some (.ref C), some (.int (shf t.length (Ts.take i))), some x, some (.str t), some (.int (lo pk)), some (.int (hi pk))] : L2.St) = [some (.ref a), some (.ref b), some (.ref S), some (.ref C), some (.int (shf t.length (Ts.take i))), some x, some (.str t), some (.int (lo pk)), some (.int (hi pk))] ∧ Ex H (upd H3 S (.lst (ss ++ [.ref p3]))) ∧ (upd H3 S (.lst (ss ++ [.ref p3]))) S = some (.lst ss') ∧ P2 (TrS (upd H3 S (.lst (ss ++ [.ref p3])))) ss' (spls (decide (t ≠ "")) t (Ts.take (i + 1))) ∧ (upd H3 S (.lst (ss ++ [.ref p3]))) C = some (.lst ((cars t.length (Ts.take i)).map V.int)) := fun c H3 e3 g3 p3 h3 => by
          have tk : Tk H3 (upd H3 S (.lst (ss ++ [.ref p3]))) := .put g3
          refine ⟨ss ++ [.ref p3], rfl, Same.mut ((e.trans e12).trans e3) hS, upd_same, ?_, by rw [upd_ne (Ne.symm neSC)]; exact e3 _ _ (e12 _ _ gC)⟩
          rw [tk1, spls_snoc, if_pos c]
          exact (p2_imm (tk.trans (.refl _)) (p2_imm (.ex (e12.trans e3)) hss)).snoc (imm tk ⟨p3, rfl, h3⟩)
        walk_at "rd"
        refine r_ite (fun c => ?_) (fun c => ?_)
        · walk_at "rd"
          refine r_tyL (sqL (e12 _ _ gS)) ?_
          walk_at "rd"
          refine r_small nsz fun p3 hp3 => ?_
          obtain ⟨H3, k3, e3, h3⟩ := new1 hp3 (.tup [.int (lo pk), .int (hi pk - lo pk), .str t])
          rw [← k3]
          walk_at "rd"
          refine r_app (e3 _ _ (e12 _ _ gS)) (Nat.lt_of_le_of_lt sl (by decide)) ?_
          walk_at "rd"
          exact yes (by rw [decide_eq_true c]; rfl) H3 e3 (e3 _ _ (e12 _ _ gS)) p3 h3
        · walk_at "rd"
          refine r_iteN (fun c2 => ?_) (fun c2 => ?_)
          · walk_at "rd"
            refine r_tyL (sqL (e12 _ _ gS)) ?_
            walk_at "rd"
            refine r_small nsz fun p3 hp3 => ?_
            obtain ⟨H3, k3, e3, h3⟩ := new1 hp3 (.tup [.int (lo pk), .int (hi pk - lo pk), .str t])
            rw [← k3]
            walk_at "rd"
            refine r_app (e3 _ _ (e12 _ _ gS)) (Nat.lt_of_le_of_lt sl (by decide)) ?_
            walk_at "rd"
            refine yes ?_ H3 e3 (e3 _ _ (e12 _ _ gS)) p3 h3
            rw [Bool.or_eq_true]
            exact .inr (decide_eq_true fun z => c2 (by rw [z]))
          · walk_at "rd"
            have tn : t = "" := V.str.inj c2
            refine ⟨ss, rfl, e.trans e12, e12 _ _ gS, ?_, e12 _ _ gC⟩
            rw [tk1, spls_snoc, if_neg (by rw [decide_eq_false c, tn]; decide), List.append_nil]
            exact p2_imm (.ex e12) hss
      · rintro σ H3 ⟨ss', rfl, e3, gS3, hss3, gC3⟩
        walk_at "rd"
        refine ⟨_, rfl, ?_⟩
        walk_at "rd"
        refine r_lenS tl ?_
        walk_at "rd"
        refine ⟨_, _, rfl, rfl, ?_⟩
        walk_at "rd"
        refine r_tyL (sqL gC3) ?_
        walk_at "rd"
        refine r_app gC3 (Nat.lt_of_le_of_lt (show _ ≤ 1000 by unfold cars; rw [List.length_map, List.length_map, List.length_range, List.length_take]; omega) (by decide)) ?_
        walk_at "rd"
        have tk : Tk H3 (upd H3 C (.lst ((cars t.length (Ts.take i)).map V.int ++ [.int (hi pk + (shf t.length (Ts.take i) + (t.length - (hi pk - lo pk))))]))) := .put gC3
        refine ⟨_, _, _, _, ss', by rw [tk1, shf_snoc]; rfl, Same.mut e3 hCH, by rw [upd_ne neSC]; exact gS3, p2_imm tk hss3, ?_⟩
        rw [upd_same, tk1, cars_snoc, shf_snoc, List.map_append]
        rfl
    · obtain ⟨y5, y6, y7, y8, ss, rfl, e, gS, hss, gC⟩ := hP
      rw [xl, List.take_length] at hss gC
      walk_at "rd"
      refine r_tupLV gS hss fun p2 H2 hp2 e2 hv => ?_
      walk_at "rd"
      have cl : (cars t.length Ts).length ≤ 4000 := by unfold cars; rw [List.length_map, List.length_range]; omega
      refine r_setSort (sqL (e2 _ _ gC)) cl fun ns d H4 e4 hpw hmem h4 => ?_
      walk_at "rd"
      refine r_tupLV h4 (iv_map ns) fun p5 H5 hp5 e5 hv5 => ?_
      walk_at "rd"
      refine r_small nsz fun p6 hp6 => ?_
      obtain ⟨H6, k6, e6, h6⟩ := new1 hp6 (.tup [.ref p2, .ref p5])
      rw [← k6]
      have e26 := (e4.trans e5).trans e6
      exact q _ _ ns (e.trans (e2.trans e26)) ⟨hpw, hmem⟩ ⟨p6, _, _, rfl, h6, imm (.ex e26) hv, imm (.ex e6) hv5⟩
end
end K46

namespace K46
open PySem PySem.Spec PyProof.Rows L2 Dk Q46
/-- one step of a reading -/
local macro_rules | `(tactic| walk_at "rd1") => `(tactic| first
  | ((with_reducible refine r_var (v := ?rv) ?rh ?_); (case rh => rfl))
  | with_reducible refine r_c ?_
  | with_reducible refine r_seq ?_
  | with_reducible refine r_asg ?_
  | with_reducible refine r_par ?_
  | with_reducible refine r_gname ?_
  | with_reducible refine r_op ?_
  | with_reducible refine r_forLo ?_
  | with_reducible refine r_forTo ?_
  | with_reducible refine r_forSo ?_
  | with_reducible refine r_forRo ?_
  | with_reducible refine r_forRvo ?_
  | with_reducible refine r_forZo ?_
  | with_reducible refine r_revS ?_
  | with_reducible refine r_lcRo ?_
  | with_reducible refine r_lcLo ?_
  | with_reducible refine r_yes ?_
  | with_reducible refine r_callK0 ?_
  | with_reducible refine r_break ?_
  | with_reducible refine r_continue ?_
  | with_reducible refine r_forR2o ?_
  | with_reducible refine r_forEo ?_
  | with_reducible refine r_forESo ?_
  | with_reducible refine r_xfo ?_
  | with_reducible refine r_noP ?_
  | with_reducible refine r_part ?_
  | with_reducible refine r_pI ?_
  | with_reducible refine r_gcons ?_
  | with_reducible refine r_gnil ?_
  | with_reducible refine r_mkO ?_
  | with_reducible refine r_un ?_
  | with_reducible refine r_addI ?_
  | with_reducible refine r_I0 ?_
  | with_reducible refine r_U ?_
  | with_reducible refine r_cons ?_
  | with_reducible refine r_nil ?_
  | with_reducible refine r_CB ?_
  | with_reducible refine r_call ?_
  | with_reducible refine r_callS ?_
  | with_reducible refine r_int ?_
  | with_reducible refine r_max ?_
  | with_reducible refine r_min ?_
  | with_reducible refine r_test ?_
  | with_reducible refine r_B ?_
  | with_reducible refine r_blv ?_
  | with_reducible refine r_and ?_
  | with_reducible refine r_or ?_
  | with_reducible refine r_not ?_
  | with_reducible refine r_andV ?_
  | with_reducible refine r_orV ?_
  | with_reducible refine r_notV ?_
  | with_reducible refine r_ifE ?_
  | with_reducible refine r_ifS ?_
  | with_reducible refine r_ret ?_
  | with_reducible refine r_retN ?_
  | with_reducible refine r_drop ?_
  | with_reducible refine r_next ?_
  | with_reducible refine r_sl ?_
  | with_reducible refine r_gsub ?_
  | with_reducible refine r_bm ?_
  | with_reducible refine r_bm0 ?_
  | with_reducible refine r_tup ?_
  | with_reducible refine r_lst ?_
  | with_reducible refine r_isN ?_
  | with_reducible refine r_notN ?_
  | with_reducible refine r_chain ?_
  | with_reducible refine r_callK ?_
  | with_reducible refine r_isB ?_
  | with_reducible refine r_lcEio ?_
  | with_reducible refine r_forEi ?_
  | with_reducible refine r_lcTo ?_
  | with_reducible refine r_lcSo ?_
  | with_reducible refine r_m1 ?_
  | with_reducible refine r_dget ?_
  | with_reducible refine r_din ?_
  | with_reducible refine r_dnotin ?_
  | with_reducible refine r_starC ?_
  | with_reducible refine r_callKS ?_
  | with_reducible refine r_itt ?_
  | with_reducible refine r_iff ?_
  | with_reducible refine r_ittN ?_
  | with_reducible refine r_iffN ?_
  | ((with_reducible refine r_ittD ?rh ?_); (case rh => rfl))
  | ((with_reducible refine r_iffD ?rh ?_); (case rh => rfl))
  | ((with_reducible refine r_modP ?rh ?_); (case rh => decide))
  | ((with_reducible refine r_eq ?rh ?_); (case rh => rfl))
  | ((with_reducible refine r_eqP ?rh ?_); (case rh => rfl))
  | ((with_reducible refine r_ne ?rh ?_); (case rh => rfl)))
local macro_rules | `(tactic| walk_at "rd") => `(tactic| repeat walk_at "rd1")
local macro_rules | `(tactic| walk_at "isi") => `(tactic| first | refine r_isi (b := true) (by assumption) (by decide +kernel) ?_ | refine r_isi (b := false) (by assumption) (by decide +kernel) ?_)
local macro_rules | `(tactic| walk_at "rs1") => `(tactic| first
  | with_reducible refine r_seq ?_
  | with_reducible refine r_asg ?_
  | with_reducible refine r_gname ?_
  | with_reducible refine r_ret ?_)
local macro_rules | `(tactic| walk_at "rs") => `(tactic| repeat walk_at "rs1")

abbrev Pks (K : PySem.W.Frag) := TupV K PrV
def spPut (K : PySem.W.Frag) : Sp := fun vs H Q _ => ∃ (v : V) (T : List Iv) (t : Str), vs = [v, .str t] ∧ Pks K H v T ∧ T.length ≤ 1000 ∧ t.length ≤ 1000 ∧ ∀ u H' C, Ex H H' → SS (cars t.length T) C → EntV K H' u (spls (decide (t ≠ "")) t T) C → Q u H'
def spAhd (K : PySem.W.Frag) : Sp := fun vs H Q _ => ∃ (v : V) (J : List Iv) (p : Int), vs = [v, .int p] ∧ Pks K H v J ∧ J.length ≤ 1000 ∧ ∀ H', Ex H H' → Q (.int (Q46.ahead J p)) H'
def ltIv (a : Iv) : Bool := decide (a.1 < a.2)
def cutC (J T : List Iv) : List Int := T.map fun a : Iv => Q46.lo a - Q46.ahead J (Q46.lo a)
def spCutR (K : PySem.W.Frag) : Sp := fun vs H Q _ => ∃ (v : V) (st : Addr) (T St : List Iv) (xs : List V), vs = [v, .ref st] ∧ Pks K H v T ∧ T.length ≤ 1000 ∧ H st = some (.lst xs) ∧ PrL H xs St ∧ St.length ≤ 1000 ∧ ∀ u H' m C, Ex H H' → m.Pairwise Pk.Lx → m.Perm (St.filter ltIv) → SS (cutC (jn m) T) C → EntV K H' u (cs3 "" (jn m)) C → Q u H'
def stB (many : Int) (a : Iv) : Iv := (if lo a = hi a then max (lo a - many) 0 else lo a, hi a)
def stA (N many : Int) (a : Iv) : Iv := (lo a, if lo a = hi a then min (hi a + many) N else hi a)
def spBk (K : PySem.W.Frag) : Sp := fun vs H Q _ => ∃ (v : V) (T : List Iv) (z : Str) (many : Int), vs = [v, .str z, .int many] ∧ Pks K H v T ∧ T.length ≤ 1000 ∧ z.length ≤ 1000 ∧ ∀ u H' m C, Ex H H' → m.Pairwise Pk.Lx → m.Perm ((T.map (stB many)).filter ltIv) → SS (cutC (jn m) T) C → EntV K H' u (cs3 "" (jn m)) C → Q u H'
def spAh (K : PySem.W.Frag) : Sp := fun vs H Q _ => ∃ (v : V) (T : List Iv) (z : Str) (many : Int), vs = [v, .str z, .int many] ∧ Pks K H v T ∧ T.length ≤ 1000 ∧ z.length ≤ 1000 ∧ ∀ u H' m C, Ex H H' → m.Pairwise Pk.Lx → m.Perm ((T.map (stA z.length many)).filter ltIv) → SS (cutC (jn m) T) C → EntV K H' u (cs3 "" (jn m)) C → Q u H'
section
variable {P : Program} {w : World} {K : PySem.W.Frag} {mg : Str → Option Value} {base : Heap}
theorem ok_put_round (T : Txt K mg) : FnOk P w K mg base CX0 3 T.a_put_round T.d_put_round ["picks", "text"] (spPut K) := by
  refine T.F_put_round.ok sc_put_round (fun vs H Q E h => ?_) (fun cdv A outer s H vs Q E hr h => ?_)
  · obtain ⟨v, Ts, t, rfl, _⟩ := h
    rfl
  · obtain ⟨v, Ts, t, rfl, ⟨p, xs, rfl, hp, hx⟩, hl, ht, q⟩ := h
    refine ⟨_, (pss_one (ps_ret (pe_call (ok_put_texts T) hr (by rfl) T.g_put_texts T.F_put_texts.kp T.b_put_texts .nil pass0 (pa_cons (pv 0) (pa_cons (pe_op op_rep (pe_lst (pa_cons (pv 1) pa_nil)) (pe_callB call_lenU (by rfl) T.n_len (by decide +kernel) (pa_cons (pv 0) pa_nil))) pa_nil))))), ?_⟩
    walk_at "rd"
    refine r_small nsz fun l0 hl0 => ?_
    obtain ⟨H1, k1, e1, h1⟩ := new1 hl0 (.lst [V.str t])
    rw [← k1]
    walk_at "rd"
    refine r_lenT (hp.up e1).sq ?_
    rw [hx.len]
    walk_at "rd"
    refine r_repL h1 (by omega) fun l hl' => ?_
    obtain ⟨H2, k2, e2, h2⟩ := new1 hl' (.lst (List.replicate Ts.length (V.str t)))
    rw [← k2]
    have e12 := e1.trans e2
    walk_at "rd"
    exact ⟨p, l, xs, Ts, t, rfl, hp.up e12, prl_imm (.ex e12) hx, h2, hl, ht, fun u H' C e hC hE => q u H' C (e12.trans e) hC hE⟩
theorem ok_cut_ahead (T : Txt K mg) : FnOk P w K mg base CX0 1 T.a_cut_ahead T.d_cut_ahead ["stretches", "place"] (spAhd K) := by
  refine T.F_cut_ahead.ok sc_cut_ahead (fun vs H Q E h => ?_) (fun cdv A outer s H vs Q E hr h => ?_)
  · obtain ⟨v, J, p, rfl, _⟩ := h
    rfl
  · obtain ⟨v, J, pl, rfl, ⟨p, xs, rfl, hp, hx⟩, hl, q⟩ := h
    refine ⟨_, (pss_one (ps_ret (pe_callB (cr_sum rfl) (by rfl) T.n_sum (by decide +kernel) (pa_cons (pe_lc (own := [("low", 2), ("high", 3)]) (g := gTup K 2 (gCons (gName 2) (gCons (gName 3) gNil))) rfl sc_cut_ahead.nd (pi_tup (pv 0)) (blkOk_by (N := N_cut_ahead) (sc := defScope s_cut_ahead) (by decide +kernel)) (fun _ _ _ _ _ => pg_tup rfl (pgs_cons (pg_name (i := 2) sc_cut_ahead.nd rfl (Or.inl rfl)) (pgs_cons (pg_name (i := 3) sc_cut_ahead.nd rfl (Or.inl rfl)) pgs_nil))) (fun _ _ _ _ _ => (pts_one (pt_cmpR op_lt (pv 2) (pv 1) (nomark _)))) (fun _ _ _ _ _ => (pe_op op_sub (pe_callB (call_minU rfl) (by rfl) T.n_min (by decide +kernel) (pa_cons (pv 3) (pa_cons (pv 1) pa_nil))) (pv 2)))) pa_nil)))), ?_⟩
    walk_at "rd"
    refine l_lcT hp.sq (fun C i H2 => Ex H H2 ∧ H2 C = some (.lst ((((J.take i).filter fun r => decide (r.1 < pl)).map fun r => min r.2 pl - r.1).map V.int))) (fun C hC => ⟨Same.new (Same.refl _) hC, upd_same⟩) (fun C i H2 hP => (hp.up hP.1).sq) (fun C i x H2 hC hx' hP => ?_) (fun C H2 hC hP => ?_)
    · obtain ⟨e2, gC⟩ := hP
      obtain ⟨r, hr', hv⟩ := hx.get hx'
      have il : i < J.length := (List.getElem?_eq_some_iff.mp hr').1
      have tk1 : J.take (i + 1) = J.take i ++ [r] := by rw [List.take_add_one, hr']; rfl
      refine r_gPr (imm (.ex e2) hv) ?_
      walk_at "rd"
      refine ⟨rfl, ?_⟩
      walk_at "rd"
      refine r_ite (fun c => ?_) (fun c => ?_)
      · walk_at "rd"
        refine ⟨_, gC, Nat.lt_of_le_of_lt (show _ ≤ 1000 by rw [List.length_map, List.length_map]; have := List.length_filter_le (fun r : Iv => decide (r.1 < pl)) (J.take i); rw [List.length_take] at this; omega) (by decide), Same.mut e2 hC, ?_⟩
        rw [upd_same, tk1, List.filter_append, List.map_append, List.map_append, List.filter_cons_of_pos (by simpa using c)]
        rfl
      · refine ⟨e2, ?_⟩
        rw [gC, tk1, List.filter_append, List.filter_cons_of_neg (by simpa using c)]
        rw [List.filter_nil, List.append_nil]
    · obtain ⟨e2, gC⟩ := hP
      rw [hx.len, List.take_length] at gC
      refine ⟨C, _, rfl, sqL gC, ?_⟩
      exact q H2 e2
theorem filt_snoc {l : List Iv} {i : Nat} {r : Iv} (h : l[i]? = some r) : (l.take (i + 1)).filter ltIv = (l.take i).filter ltIv ++ if r.1 < r.2 then [r] else [] := by
  have tk1 : l.take (i + 1) = l.take i ++ [r] := by rw [List.take_add_one, h]; rfl
  rw [tk1, List.filter_append]
  congr 1
  by_cases c : r.1 < r.2
  · rw [if_pos c, List.filter_cons_of_pos (by unfold ltIv; simpa using c)]; rfl
  · rw [if_neg c, List.filter_cons_of_neg (by unfold ltIv; simpa using c)]; rfl
theorem ok_cut_round (T : Txt K mg) : FnOk P w K mg base CX0 2 T.a_cut_round T.d_cut_round ["picks", "stretches"] (spCutR K) := by
  refine T.F_cut_round.ok sc_cut_round (fun vs H Q E h => ?_) (fun cdv A outer s H vs Q E hr h => ?_)
  · obtain ⟨v, st, Ts, St, xs, rfl, _⟩ := h
    rfl
  · obtain ⟨v, st, Ts, St, sx, rfl, ⟨p, xs, rfl, hp, hx⟩, hl, hst, hsx, hsl, q⟩ := h
    refine ⟨_, (pss_cons (ps_set (i := 2) sc_cut_round.nd rfl (Or.inr rfl) (pe_call (ok_joined_stretches T) hr (by rfl) T.g_joined_stretches T.F_joined_stretches.kp T.b_joined_stretches .nil pass0 (pa_cons (pe_lc (own := [("low", 7), ("high", 8)]) (g := gTup K 2 (gCons (gName 7) (gCons (gName 8) gNil))) rfl sc_cut_round.nd (pi_list (pv 1)) (blkOk_by (N := N_cut_round) (sc := defScope s_cut_round) (by decide +kernel)) (fun _ _ _ _ _ => pg_tup rfl (pgs_cons (pg_name (i := 7) sc_cut_round.nd rfl (Or.inl rfl)) (pgs_cons (pg_name (i := 8) sc_cut_round.nd rfl (Or.inl rfl)) pgs_nil))) (fun _ _ _ _ _ => (pts_one (pt_cmpR op_lt (pv 7) (pv 8) (nomark _)))) (fun _ _ _ _ _ => (pe_tup (pa_cons (pv 7) (pa_cons (pv 8) pa_nil))))) pa_nil)))
        (pss_cons (ps_set (i := 3) sc_cut_round.nd rfl (Or.inl rfl) (pe_callTy call_tupU (by rfl) T.n_tuple (by decide +kernel) (pa_cons (pe_lc (own := [("low", 7), ("high", 8)]) (g := gTup K 2 (gCons (gName 7) (gCons (gName 8) gNil))) rfl sc_cut_round.nd (pi_tup (pv 2)) (blkOk_by (N := N_cut_round) (sc := defScope s_cut_round) (by decide +kernel)) (fun _ _ _ _ _ => pg_tup rfl (pgs_cons (pg_name (i := 7) sc_cut_round.nd rfl (Or.inl rfl)) (pgs_cons (pg_name (i := 8) sc_cut_round.nd rfl (Or.inl rfl)) pgs_nil))) (fun _ _ _ _ _ => pts_nil) (fun _ _ _ _ _ => (pe_tup (pa_cons (pv 7) (pa_cons (pe_op op_sub (pv 8) (pv 7)) (pa_cons pe_str pa_nil)))))) pa_nil)))
        (pss_cons (ps_setLc (i := 4) (own := [("tail", 5), ("head", 6)]) (g := (gTup K 2 (gCons (gName 5) (gCons (gName 6) gNil)))) rfl sc_cut_round.nd rfl rfl (sw_true rfl rfl rfl (by decide +kernel)) (pi_tup (pv 0)) (blkOk_by (N := N_cut_round) (sc := defScope s_cut_round) (by decide +kernel)) (fun _ _ _ _ _ => pg_tup rfl (pgs_cons (pg_name (i := 5) sc_cut_round.nd rfl (Or.inl rfl)) (pgs_cons (pg_name (i := 6) sc_cut_round.nd rfl (Or.inl rfl)) pgs_nil))) (fun _ _ _ _ _ => pts_nil) (fun _ _ _ _ _ => (pe_callB (call_minU rfl) (by rfl) T.n_min (by decide +kernel) (pa_cons (pv 5) (pa_cons (pv 6) pa_nil)))))
        (pss_one (ps_ret (pe_tup (pa_cons (pv 3) (pa_cons (pe_callTy call_tupU (by rfl) T.n_tuple (by decide +kernel) (pa_cons (pe_callB (Sx.cr_sortSU rfl) (by rfl) T.n_sorted (by decide +kernel) (pa_cons (pe_callTy (Sx.cr_setL rfl) (by rfl) T.n_set (by decide +kernel) (pa_cons (pe_lc (own := [("low", 7)]) (g := gName 7) rfl sc_cut_round.nd (pi_list (pv 4)) (blkOk_by (N := N_cut_round) (sc := defScope s_cut_round) (by decide +kernel)) (fun _ _ _ _ _ => pg_name (i := 7) sc_cut_round.nd rfl (Or.inl rfl)) (fun _ _ _ _ _ => pts_nil) (fun _ _ _ _ _ => (pe_op op_sub (pv 7) (pe_call (ok_cut_ahead T) hr (by rfl) T.g_cut_ahead T.F_cut_ahead.kp T.b_cut_ahead .nil pass0 (pa_cons (pv 2) (pa_cons (pv 7) pa_nil)))))) pa_nil)) pa_nil)) pa_nil)) pa_nil)))))))), ?_⟩
    walk_at "rd"
    refine l_lcL (sqL hst) (fun C i H2 => Ex H H2 ∧ ∃ acc, H2 C = some (.lst acc) ∧ PrL H2 acc ((St.take i).filter ltIv)) (fun C hC => ⟨Same.new (Same.refl _) hC, [], upd_same, .nil⟩) (fun C i H2 hP => sqL (hP.1 _ _ hst)) (fun C i x H2 hC hx' hP => ?_) (fun L1 H2 hC hP => ?_)
    · obtain ⟨e2, acc, gC, hacc⟩ := hP
      obtain ⟨r, hr', hv⟩ := hsx.get hx'
      have il : i < St.length := (List.getElem?_eq_some_iff.mp hr').1
      have al : acc.length ≤ 1000 := by
        rw [hacc.len]
        have := List.length_filter_le ltIv (St.take i)
        rw [List.length_take] at this
        omega
      refine r_gPr (imm (.ex e2) hv) ?_
      walk_at "rd"
      refine ⟨rfl, ?_⟩
      walk_at "rd"
      refine r_ite (fun c => ?_) (fun c => ?_)
      · walk_at "rd"
        refine r_small nsz fun p3 hp3 => ?_
        obtain ⟨H3, k3, e3, h3⟩ := newPr hp3 r.1 r.2
        rw [← k3]
        refine ⟨acc, e3 _ _ gC, Nat.lt_of_le_of_lt al (by decide), Same.mut (e2.trans e3) hC, _, upd_same, ?_⟩
        have tk : Tk H3 (upd H3 C (.lst (acc ++ [.ref p3]))) := .put (e3 _ _ gC)
        rw [filt_snoc hr', if_pos c]
        exact (prl_imm (.trans (.ex e3) tk) hacc).snoc (imm tk h3)
      · refine ⟨e2, acc, gC, ?_⟩
        rw [filt_snoc hr', if_neg c, List.append_nil]
        exact hacc
    · obtain ⟨e2, acc, gC, hacc⟩ := hP
      rw [hsx.len, List.take_length] at hacc
      have fl : (St.filter ltIv).length ≤ 1000 := Nat.le_trans (List.length_filter_le _ _) hsl
      walk_at "rd"
      refine ⟨L1, acc, _, rfl, sqL gC, hacc, fl, fun v H3 m e3 pw pm hv => ?_⟩
      have jl : (jn m).length ≤ 1000 := Nat.le_trans (jn_len m) (by rw [pm.length_eq]; exact fl)
      obtain ⟨pj, xj, rfl, hpj, hxj⟩ := id hv
      have e03 := e2.trans e3
      walk_at "rd"
      refine l_lcT hpj.sq (fun C i H4 => Ex H3 H4 ∧ ∃ acc, H4 C = some (.lst acc) ∧ P2 (TrS H4) acc (cs3 "" ((jn m).take i))) (fun C hC => ⟨Same.new (Same.refl _) hC, [], upd_same, .nil⟩) (fun C i H4 hP => (hpj.up hP.1).sq) (fun C i x H4 hC hx' hP => ?_) (fun L2 H4 hC hP => ?_)
      · obtain ⟨e4, acc2, gC2, hacc2⟩ := hP
        obtain ⟨r, hr', hv'⟩ := hxj.get hx'
        have il : i < (jn m).length := (List.getElem?_eq_some_iff.mp hr').1
        have tk1 : (jn m).take (i + 1) = (jn m).take i ++ [r] := by rw [List.take_add_one, hr']; rfl
        refine r_gPr (imm (.ex e4) hv') ?_
        walk_at "rd"
        refine ⟨rfl, ?_⟩
        walk_at "rd"
        refine r_small nsz fun p3 hp3 => ?_
        obtain ⟨H5, k5, e5, h5⟩ := new1 hp3 (.tup [.int r.1, .int (r.2 - r.1), .str ""])
        rw [← k5]
        have tk : Tk H5 (upd H5 C (.lst (acc2 ++ [.ref p3]))) := .put (e5 _ _ gC2)
        refine ⟨acc2, e5 _ _ gC2, Nat.lt_of_le_of_lt (show _ ≤ 1000 by rw [hacc2.len]; unfold cs3; rw [List.length_map, List.length_take]; omega) (by decide), Same.mut (e4.trans e5) hC, _, upd_same, ?_⟩
        have e7 : cs3 ("" : Str) ((jn m).take (i + 1)) = cs3 ("" : Str) ((jn m).take i) ++ [(r.1, r.2 - r.1, ("" : Str))] := by rw [tk1]; unfold cs3; rw [List.map_append]; rfl
        rw [e7]
        exact (p2_imm (.trans (.ex e5) tk) hacc2).snoc (imm tk ⟨p3, rfl, h5⟩)
      · obtain ⟨e4, acc2, gC2, hacc2⟩ := hP
        rw [hxj.len, List.take_length] at hacc2
        walk_at "rd"
        refine r_tupLV gC2 hacc2 fun p5 H5 hp5 e5 hv5 => ?_
        have e05 := (e03.trans e4).trans e5
        walk_at "rd"
        refine l_lcT (hp.up e05).sq (fun C i H6 => Ex H5 H6 ∧ H6 C = some (.lst (((Ts.take i).map Q46.lo).map V.int))) (fun C hC => ⟨Same.new (Same.refl _) hC, upd_same⟩) (fun C i H6 hP => (hp.up (e05.trans hP.1)).sq) (fun C i x H6 hC hx' hP => ?_) (fun L3 H6 hC hP => ?_)
        · obtain ⟨e6, gC6⟩ := hP
          obtain ⟨r, hr', hv'⟩ := hx.get hx'
          have il : i < Ts.length := (List.getElem?_eq_some_iff.mp hr').1
          have tk1 : Ts.take (i + 1) = Ts.take i ++ [r] := by rw [List.take_add_one, hr']; rfl
          refine r_gPr (imm (.ex (e05.trans e6)) hv') ?_
          walk_at "rd"
          refine ⟨rfl, ?_⟩
          walk_at "rd"
          refine ⟨_, gC6, Nat.lt_of_le_of_lt (show _ ≤ 1000 by rw [List.length_map, List.length_map, List.length_take]; omega) (by decide), Same.mut e6 hC, ?_⟩
          rw [upd_same, tk1, List.map_append, List.map_append]
          rfl
        · obtain ⟨e6, gC6⟩ := hP
          rw [hx.len, List.take_length] at gC6
          walk_at "rd"
          refine l_lcL (sqL gC6) (fun C i H7 => Ex H6 H7 ∧ H7 C = some (.lst ((cutC (jn m) (Ts.take i)).map V.int))) (fun C hC => ⟨Same.new (Same.refl _) hC, upd_same⟩) (fun C i H7 hP => sqL (hP.1 _ _ gC6)) (fun C i x H7 hC hx' hP => ?_) (fun L4 H7 hC hP => ?_)
          · obtain ⟨e7, gC7⟩ := hP
            obtain ⟨c, hc, rfl⟩ := int_map hx'
            rw [List.getElem?_map] at hc
            obtain ⟨r, hr', rfl⟩ := Option.map_eq_some_iff.mp hc
            have il : i < Ts.length := (List.getElem?_eq_some_iff.mp hr').1
            have tk1 : Ts.take (i + 1) = Ts.take i ++ [r] := by rw [List.take_add_one, hr']; rfl
            walk_at "rd"
            refine ⟨rfl, ?_⟩
            walk_at "rd"
            refine ⟨_, jn m, _, rfl, imm (.ex ((e4.trans e5).trans (e6.trans e7))) hv, jl, fun H8 e8 => ?_⟩
            refine ⟨_, _, rfl, rfl, ?_⟩
            refine ⟨_, e8 _ _ gC7, Nat.lt_of_le_of_lt (show _ ≤ 1000 by rw [List.length_map]; unfold cutC; rw [List.length_map, List.length_take]; omega) (by decide), Same.mut (e7.trans e8) hC, ?_⟩
            rw [upd_same, tk1]
            unfold cutC
            rw [List.map_append, List.map_append]
            rfl
          · obtain ⟨e7, gC7⟩ := hP
            rw [List.length_map, List.length_map, List.take_length] at gC7
            walk_at "rd"
            refine r_setSort (sqL gC7) (by unfold cutC; rw [List.length_map]; omega) fun ns d H8 e8 hpw hmem h8 => ?_
            walk_at "rd"
            refine r_tupLV h8 (iv_map ns) fun p9 H9 hp9 e9 hv9 => ?_
            walk_at "rd"
            refine r_small nsz fun p10 hp10 => ?_
            obtain ⟨H10, k10, e10, h10⟩ := new1 hp10 (.tup [.ref p5, .ref p9])
            rw [← k10]
            have e510 := (((e6.trans e7).trans e8).trans e9).trans e10
            exact q _ _ m ns (e05.trans e510) pw pm ⟨hpw, hmem⟩ ⟨p10, _, _, rfl, h10, imm (.ex e510) hv5, imm (.ex e10) hv9⟩
theorem ok_back_cuts (T : Txt K mg) : FnOk P w K mg base CX0 3 T.a_back_cuts T.d_back_cuts ["picks", "text", "many"] (spBk K) := by
  refine T.F_back_cuts.ok sc_back_cuts (fun vs H Q E h => ?_) (fun cdv A outer s H vs Q E hr h => ?_)
  · obtain ⟨v, Ts, z, many, rfl, _⟩ := h
    rfl
  · obtain ⟨v, Ts, z, many, rfl, ⟨p, xs, rfl, hp, hx⟩, hl, hz, q⟩ := h
    refine ⟨_, (pss_cons (ps_set (i := 3) sc_back_cuts.nd rfl (Or.inl rfl) (pe_lst pa_nil))
        (pss_cons (ps_for PassesOwn.never rfl (pi_list (pe_lc (own := [("pick", 7)]) (g := gName 7) rfl sc_back_cuts.nd (pi_tup (pv 0)) (blkOk_by (N := N_back_cuts) (sc := defScope s_back_cuts) (by decide +kernel)) (fun _ _ _ _ _ => pg_name (i := 7) sc_back_cuts.nd rfl (Or.inl rfl)) (fun _ _ _ _ _ => pts_nil) (fun _ _ _ _ _ => (pe_call (ok_low_high T) (hr.mono (by decide)) (by rfl) T.g_low_high T.F_low_high.kp T.b_low_high .nil pass0 (pa_cons (pv 7) pa_nil))))) (pg_tup rfl (pgs_cons (pg_name (i := 4) sc_back_cuts.nd rfl (Or.inl rfl)) (pgs_cons (pg_name (i := 5) sc_back_cuts.nd rfl (Or.inl rfl)) pgs_nil))) (pss_cons (ps_set (i := 6) sc_back_cuts.nd rfl (Or.inl rfl) (pe_ifExp (pt_cmpR (op_eqU hr.units) (pv 4) (pv 5) (nomark _)) (pe_callB (call_maxU rfl) (by rfl) T.n_max (by decide +kernel) (pa_cons (pe_op op_sub (pv 4) (pv 2)) (pa_cons pe_int pa_nil))) (pv 4)))
        (pss_one (ps_expr (pe_bm PySem.F.plainAttrs_list PySem.F.slot_list_append PySem.F.type_list_append mt_append (pv 3) (pa_cons (pe_tup (pa_cons (pv 6) (pa_cons (pv 5) pa_nil))) pa_nil))))))
        (pss_one (ps_ret (pe_call (ok_cut_round T) hr (by rfl) T.g_cut_round T.F_cut_round.kp T.b_cut_round .nil pass0 (pa_cons (pv 0) (pa_cons (pv 3) pa_nil))))))), ?_⟩
    have zl : z.length ≤ sizeLine := by rw [sizeLine_eq]; omega
    walk_at "rd"
    refine r_small nsz fun S hS => ?_
    have eS : Ex H (upd H S (.lst [])) := Same.new (Same.refl H) hS
    walk_at "rd"
    refine l_lcT (hp.up eS).sq (fun C i H2 => Ex H H2 ∧ H2 S = some (.lst []) ∧ ∃ acc, H2 C = some (.lst acc) ∧ PrL H2 acc ((Ts.take i).map fun a => (Q46.lo a, hi a))) (fun C hC => ⟨eS.trans (Same.new (Same.refl _) hC), by rw [upd_ne (fun z => by rw [← z, upd_same] at hC; cases hC), upd_same], [], upd_same, .nil⟩) (fun C i H2 hP => (hp.up hP.1).sq) (fun C i x H2 hC hx' hP => ?_) (fun L1 H2 hC hP => ?_)
    · obtain ⟨e2, gS, acc, gC, hacc⟩ := hP
      obtain ⟨r, hr', hv⟩ := hx.get hx'
      have il : i < Ts.length := (List.getElem?_eq_some_iff.mp hr').1
      have tk1 : Ts.take (i + 1) = Ts.take i ++ [r] := by rw [List.take_add_one, hr']; rfl
      have neSC : S ≠ C := fun z => by rw [← z, upd_same] at hC; cases hC
      walk_at "rd"
      refine ⟨rfl, ?_⟩
      walk_at "rd"
      refine ⟨x, r, rfl, imm (.ex e2) hv, fun u H3 e3 hu => ?_⟩
      have tk : Tk H3 (upd H3 C (.lst (acc ++ [u]))) := .put (e3 _ _ gC)
      refine ⟨acc, e3 _ _ gC, Nat.lt_of_le_of_lt (show _ ≤ 1000 by rw [hacc.len, List.length_map, List.length_take]; omega) (by decide), Same.mut (e2.trans e3) (eS.free hC), by rw [upd_ne neSC]; exact e3 _ _ gS, _, upd_same, ?_⟩
      rw [tk1, List.map_append]
      exact (prl_imm (.trans (.ex e3) tk) hacc).snoc (imm tk hu)
    · obtain ⟨e2, gS, acc, gC, hacc⟩ := hP
      rw [hx.len, List.take_length] at hacc
      have neSL : S ≠ L1 := fun z => by rw [← z, upd_same] at hC; cases hC
      refine l_L (sqL gC) (fun i σ H3 => ∃ y4 y5 y6 y7 ss, σ = [some (.ref p), some (.str z), some (.int many), some (.ref S), y4, y5, y6, y7] ∧ Ex H H3 ∧ H3 L1 = some (.lst acc) ∧ PrL H3 acc (Ts.map fun a => (Q46.lo a, hi a)) ∧ H3 S = some (.lst ss) ∧ PrL H3 ss ((Ts.take i).map (stB many))) ⟨none, none, none, none, [], rfl, e2, gC, hacc, gS, .nil⟩ (fun i σ H3 h => ?_) (fun i x σ H3 hx' hP => ?_) (fun σ H3 hP => ?_)
      · obtain ⟨_, _, _, _, _, _, _, h, _⟩ := h
        exact sqL h
      · obtain ⟨y4, y5, y6, y7, ss, rfl, e3, gL, hal, gS3, hss⟩ := hP
        obtain ⟨r', hr', hv⟩ := hal.get hx'
        rw [List.getElem?_map] at hr'
        obtain ⟨r, hr, rfl⟩ := Option.map_eq_some_iff.mp hr'
        have il : i < Ts.length := (List.getElem?_eq_some_iff.mp hr).1
        have tk1 : Ts.take (i + 1) = Ts.take i ++ [r] := by rw [List.take_add_one, hr]; rfl
        have sl : ss.length ≤ 1000 := by rw [hss.len, List.length_map, List.length_take]; omega
        refine r_gPr hv ?_
        have fin : ∀ (b : Int), (b, hi r) = stB many r → ∀ (y4 y5 y7 : Option V) (p3 : Addr), H3 p3 = none → ∃ y4' y5' y6' y7' ss', ([some (.ref p), some (.str z), some (.int many), some (.ref S), y4, y5, some (.int b), y7] : L2.St) = [some (.ref p), some (.str z), some (.int many), some (.ref S), y4', y5', y6', y7'] ∧ Ex H (upd (upd H3 p3 (.tup [.int b, .int (hi r)])) S (.lst (ss ++ [.ref p3]))) ∧ (upd (upd H3 p3 (.tup [.int b, .int (hi r)])) S (.lst (ss ++ [.ref p3]))) L1 = some (.lst acc) ∧ PrL (upd (upd H3 p3 (.tup [.int b, .int (hi r)])) S (.lst (ss ++ [.ref p3]))) acc (Ts.map fun a => (Q46.lo a, hi a)) ∧ (upd (upd H3 p3 (.tup [.int b, .int (hi r)])) S (.lst (ss ++ [.ref p3]))) S = some (.lst ss') ∧ PrL (upd (upd H3 p3 (.tup [.int b, .int (hi r)])) S (.lst (ss ++ [.ref p3]))) ss' ((Ts.take (i + 1)).map (stB many)) := fun b hb y4 y5 y7 p3 hp3 => by
          obtain ⟨H4, k4, e4, h4⟩ := newPr hp3 b (hi r)
          rw [← k4]
          have tk : Tk H4 (upd H4 S (.lst (ss ++ [.ref p3]))) := .put (e4 _ _ gS3)
          refine ⟨y4, y5, _, y7, _, rfl, Same.mut (e3.trans e4) hS, by rw [upd_ne (Ne.symm neSL)]; exact e4 _ _ gL, prl_imm tk (prl_imm (.ex e4) hal), upd_same, ?_⟩
          rw [tk1, List.map_append]
          rw [hb] at h4
          exact (prl_imm (.trans (.ex e4) tk) hss).snoc (imm tk h4)
        walk_at "rd"
        refine r_ite (fun c => ?_) (fun c => ?_)
        · walk_at "rd"
          refine r_tyL (sqL gS3) ?_
          walk_at "rd"
          refine r_small nsz fun p3 hp3 => ?_
          walk_at "rd"
          refine r_app (by rw [upd_ne (fun z => by rw [z] at gS3; rw [hp3] at gS3; cases gS3)]; exact gS3) (Nat.lt_of_le_of_lt sl (by decide)) ?_
          walk_at "rd"
          have c' : Q46.lo r = hi r := V.int.inj c
          exact fin _ (by unfold stB; rw [if_pos c']) _ _ _ p3 hp3
        · walk_at "rd"
          refine r_tyL (sqL gS3) ?_
          walk_at "rd"
          refine r_small nsz fun p3 hp3 => ?_
          walk_at "rd"
          refine r_app (by rw [upd_ne (fun z => by rw [z] at gS3; rw [hp3] at gS3; cases gS3)]; exact gS3) (Nat.lt_of_le_of_lt sl (by decide)) ?_
          walk_at "rd"
          have c' : ¬ Q46.lo r = hi r := fun z => c (by rw [z])
          exact fin _ (by unfold stB; rw [if_neg c']) _ _ _ p3 hp3
      · obtain ⟨y4, y5, y6, y7, ss, rfl, e3, gL, hal, gS3, hss⟩ := hP
        rw [hal.len, List.length_map, List.take_length] at hss
        walk_at "rd"
        exact ⟨_, S, Ts, _, ss, rfl, ⟨p, xs, rfl, hp.up e3, prl_imm (.ex e3) hx⟩, hl, gS3, hss, by rw [List.length_map]; exact hl, fun u H' m C e pw pm hC hE => q u H' m C (e3.trans e) pw pm hC hE⟩
theorem ok_ahead_cuts (T : Txt K mg) : FnOk P w K mg base CX0 3 T.a_ahead_cuts T.d_ahead_cuts ["picks", "text", "many"] (spAh K) := by
  refine T.F_ahead_cuts.ok sc_ahead_cuts (fun vs H Q E h => ?_) (fun cdv A outer s H vs Q E hr h => ?_)
  · obtain ⟨v, Ts, z, many, rfl, _⟩ := h
    rfl
  · obtain ⟨v, Ts, z, many, rfl, ⟨p, xs, rfl, hp, hx⟩, hl, hz, q⟩ := h
    refine ⟨_, (pss_cons (ps_set (i := 3) sc_ahead_cuts.nd rfl (Or.inl rfl) (pe_lst pa_nil))
        (pss_cons (ps_for PassesOwn.never rfl (pi_list (pe_lc (own := [("pick", 7)]) (g := gName 7) rfl sc_ahead_cuts.nd (pi_tup (pv 0)) (blkOk_by (N := N_ahead_cuts) (sc := defScope s_ahead_cuts) (by decide +kernel)) (fun _ _ _ _ _ => pg_name (i := 7) sc_ahead_cuts.nd rfl (Or.inl rfl)) (fun _ _ _ _ _ => pts_nil) (fun _ _ _ _ _ => (pe_call (ok_low_high T) (hr.mono (by decide)) (by rfl) T.g_low_high T.F_low_high.kp T.b_low_high .nil pass0 (pa_cons (pv 7) pa_nil))))) (pg_tup rfl (pgs_cons (pg_name (i := 4) sc_ahead_cuts.nd rfl (Or.inl rfl)) (pgs_cons (pg_name (i := 5) sc_ahead_cuts.nd rfl (Or.inl rfl)) pgs_nil))) (pss_cons (ps_set (i := 6) sc_ahead_cuts.nd rfl (Or.inl rfl) (pe_ifExp (pt_cmpR (op_eqU hr.units) (pv 4) (pv 5) (nomark _)) (pe_callB (call_minU rfl) (by rfl) T.n_min (by decide +kernel) (pa_cons (pe_op op_addU (pv 5) (pv 2)) (pa_cons (pe_callB call_lenU (by rfl) T.n_len (by decide +kernel) (pa_cons (pv 1) pa_nil)) pa_nil))) (pv 5)))
        (pss_one (ps_expr (pe_bm PySem.F.plainAttrs_list PySem.F.slot_list_append PySem.F.type_list_append mt_append (pv 3) (pa_cons (pe_tup (pa_cons (pv 4) (pa_cons (pv 6) pa_nil))) pa_nil))))))
        (pss_one (ps_ret (pe_call (ok_cut_round T) hr (by rfl) T.g_cut_round T.F_cut_round.kp T.b_cut_round .nil pass0 (pa_cons (pv 0) (pa_cons (pv 3) pa_nil))))))), ?_⟩
    have zl : z.length ≤ sizeLine := by rw [sizeLine_eq]; omega
    walk_at "rd"
    refine r_small nsz fun S hS => ?_
    have eS : Ex H (upd H S (.lst [])) := Same.new (Same.refl H) hS
    walk_at "rd"
    refine l_lcT (hp.up eS).sq (fun C i H2 => Ex H H2 ∧ H2 S = some (.lst []) ∧ ∃ acc, H2 C = some (.lst acc) ∧ PrL H2 acc ((Ts.take i).map fun a => (Q46.lo a, hi a))) (fun C hC => ⟨eS.trans (Same.new (Same.refl _) hC), by rw [upd_ne (fun z => by rw [← z, upd_same] at hC; cases hC), upd_same], [], upd_same, .nil⟩) (fun C i H2 hP => (hp.up hP.1).sq) (fun C i x H2 hC hx' hP => ?_) (fun L1 H2 hC hP => ?_)
    · obtain ⟨e2, gS, acc, gC, hacc⟩ := hP
      obtain ⟨r, hr', hv⟩ := hx.get hx'
      have il : i < Ts.length := (List.getElem?_eq_some_iff.mp hr').1
      have tk1 : Ts.take (i + 1) = Ts.take i ++ [r] := by rw [List.take_add_one, hr']; rfl
      have neSC : S ≠ C := fun z => by rw [← z, upd_same] at hC; cases hC
      walk_at "rd"
      refine ⟨rfl, ?_⟩
      walk_at "rd"
      refine ⟨x, r, rfl, imm (.ex e2) hv, fun u H3 e3 hu => ?_⟩
      have tk : Tk H3 (upd H3 C (.lst (acc ++ [u]))) := .put (e3 _ _ gC)
      refine ⟨acc, e3 _ _ gC, Nat.lt_of_le_of_lt (show _ ≤ 1000 by rw [hacc.len, List.length_map, List.length_take]; omega) (by decide), Same.mut (e2.trans e3) (eS.free hC), by rw [upd_ne neSC]; exact e3 _ _ gS, _, upd_same, ?_⟩
      rw [tk1, List.map_append]
      exact (prl_imm (.trans (.ex e3) tk) hacc).snoc (imm tk hu)
    · obtain ⟨e2, gS, acc, gC, hacc⟩ := hP
      rw [hx.len, List.take_length] at hacc
      have neSL : S ≠ L1 := fun z => by rw [← z, upd_same] at hC; cases hC
      refine l_L (sqL gC) (fun i σ H3 => ∃ y4 y5 y6 y7 ss, σ = [some (.ref p), some (.str z), some (.int many), some (.ref S), y4, y5, y6, y7] ∧ Ex H H3 ∧ H3 L1 = some (.lst acc) ∧ PrL H3 acc (Ts.map fun a => (Q46.lo a, hi a)) ∧ H3 S = some (.lst ss) ∧ PrL H3 ss ((Ts.take i).map (stA z.length many))) ⟨none, none, none, none, [], rfl, e2, gC, hacc, gS, .nil⟩ (fun i σ H3 h => ?_) (fun i x σ H3 hx' hP => ?_) (fun σ H3 hP => ?_)
      · obtain ⟨_, _, _, _, _, _, _, h, _⟩ := h
        exact sqL h
      · obtain ⟨y4, y5, y6, y7, ss, rfl, e3, gL, hal, gS3, hss⟩ := hP
        obtain ⟨r', hr', hv⟩ := hal.get hx'
        rw [List.getElem?_map] at hr'
        obtain ⟨r, hr, rfl⟩ := Option.map_eq_some_iff.mp hr'
        have il : i < Ts.length := (List.getElem?_eq_some_iff.mp hr).1
        have tk1 : Ts.take (i + 1) = Ts.take i ++ [r] := by rw [List.take_add_one, hr]; rfl
        have sl : ss.length ≤ 1000 := by rw [hss.len, List.length_map, List.length_take]; omega
        refine r_gPr hv ?_
        have fin : ∀ (b : Int), (Q46.lo r, b) = stA z.length many r → ∀ (y4 y5 y7 : Option V) (p3 : Addr), H3 p3 = none → ∃ y4' y5' y6' y7' ss', ([some (.ref p), some (.str z), some (.int many), some (.ref S), y4, y5, some (.int b), y7] : L2.St) = [some (.ref p), some (.str z), some (.int many), some (.ref S), y4', y5', y6', y7'] ∧ Ex H (upd (upd H3 p3 (.tup [.int (Q46.lo r), .int b])) S (.lst (ss ++ [.ref p3]))) ∧ (upd (upd H3 p3 (.tup [.int (Q46.lo r), .int b])) S (.lst (ss ++ [.ref p3]))) L1 = some (.lst acc) ∧ PrL (upd (upd H3 p3 (.tup [.int (Q46.lo r), .int b])) S (.lst (ss ++ [.ref p3]))) acc (Ts.map fun a => (Q46.lo a, hi a)) ∧ (upd (upd H3 p3 (.tup [.int (Q46.lo r), .int b])) S (.lst (ss ++ [.ref p3]))) S = some (.lst ss') ∧ PrL (upd (upd H3 p3 (.tup [.int (Q46.lo r), .int b])) S (.lst (ss ++ [.ref p3]))) ss' ((Ts.take (i + 1)).map (stA z.length many)) := fun b hb y4 y5 y7 p3 hp3 => by
          obtain ⟨H4, k4, e4, h4⟩ := newPr hp3 (Q46.lo r) b
          rw [← k4]
          have tk : Tk H4 (upd H4 S (.lst (ss ++ [.ref p3]))) := .put (e4 _ _ gS3)
          refine ⟨y4, y5, _, y7, _, rfl, Same.mut (e3.trans e4) hS, by rw [upd_ne (Ne.symm neSL)]; exact e4 _ _ gL, prl_imm tk (prl_imm (.ex e4) hal), upd_same, ?_⟩
          rw [tk1, List.map_append]
          rw [hb] at h4
          exact (prl_imm (.trans (.ex e4) tk) hss).snoc (imm tk h4)
        walk_at "rd"
        refine r_ite (fun c => ?_) (fun c => ?_)
        · walk_at "rd"
          refine r_lenS zl ?_
          walk_at "rd"
          refine r_tyL (sqL gS3) ?_
          walk_at "rd"
          refine r_small nsz fun p3 hp3 => ?_
          walk_at "rd"
          refine r_app (by rw [upd_ne (fun z => by rw [z] at gS3; rw [hp3] at gS3; cases gS3)]; exact gS3) (Nat.lt_of_le_of_lt sl (by decide)) ?_
          walk_at "rd"
          have c' : Q46.lo r = hi r := V.int.inj c
          exact fin _ (by unfold stA; rw [if_pos c']) _ _ _ p3 hp3
        · walk_at "rd"
          refine r_tyL (sqL gS3) ?_
          walk_at "rd"
          refine r_small nsz fun p3 hp3 => ?_
          walk_at "rd"
          refine r_app (by rw [upd_ne (fun z => by rw [z] at gS3; rw [hp3] at gS3; cases gS3)]; exact gS3) (Nat.lt_of_le_of_lt sl (by decide)) ?_
          walk_at "rd"
          have c' : ¬ Q46.lo r = hi r := fun z => c (by rw [z])
          exact fin _ (by unfold stA; rw [if_neg c']) _ _ _ p3 hp3
      · obtain ⟨y4, y5, y6, y7, ss, rfl, e3, gL, hal, gS3, hss⟩ := hP
        rw [hal.len, List.length_map, List.take_length] at hss
        walk_at "rd"
        exact ⟨_, S, Ts, _, ss, rfl, ⟨p, xs, rfl, hp.up e3, prl_imm (.ex e3) hx⟩, hl, gS3, hss, by rw [List.length_map]; exact hl, fun u H' m C e pw pm hC hE => q u H' m C (e3.trans e) pw pm hC hE⟩
end
end K46

namespace K46
open PySem PySem.Spec PyProof.Rows L2 Dk Q46
/-- one step of a reading -/
local macro_rules | `(tactic| walk_at "rd1") => `(tactic| first
  | ((with_reducible refine r_var (v := ?rv) ?rh ?_); (case rh => rfl))
  | with_reducible refine r_c ?_
  | with_reducible refine r_seq ?_
  | with_reducible refine r_asg ?_
  | with_reducible refine r_par ?_
  | with_reducible refine r_gname ?_
  | with_reducible refine r_op ?_
  | with_reducible refine r_forLo ?_
  | with_reducible refine r_forTo ?_
  | with_reducible refine r_forSo ?_
  | with_reducible refine r_forRo ?_
  | with_reducible refine r_forRvo ?_
  | with_reducible refine r_forZo ?_
  | with_reducible refine r_revS ?_
  | with_reducible refine r_lcRo ?_
  | with_reducible refine r_lcLo ?_
  | with_reducible refine r_yes ?_
  | with_reducible refine r_callK0 ?_
  | with_reducible refine r_break ?_
  | with_reducible refine r_continue ?_
  | with_reducible refine r_forR2o ?_
  | with_reducible refine r_forEo ?_
  | with_reducible refine r_forESo ?_
  | with_reducible refine r_xfo ?_
  | with_reducible refine r_noP ?_
  | with_reducible refine r_part ?_
  | with_reducible refine r_pI ?_
  | with_reducible refine r_gcons ?_
  | with_reducible refine r_gnil ?_
  | with_reducible refine r_mkO ?_
  | with_reducible refine r_un ?_
  | with_reducible refine r_addI ?_
  | with_reducible refine r_I0 ?_
  | with_reducible refine r_U ?_
  | with_reducible refine r_cons ?_
  | with_reducible refine r_nil ?_
  | with_reducible refine r_CB ?_
  | with_reducible refine r_call ?_
  | with_reducible refine r_callS ?_
  | with_reducible refine r_int ?_
  | with_reducible refine r_max ?_
  | with_reducible refine r_min ?_
  | with_reducible refine r_test ?_
  | with_reducible refine r_B ?_
  | with_reducible refine r_blv ?_
  | with_reducible refine r_and ?_
  | with_reducible refine r_or ?_
  | with_reducible refine r_not ?_
  | with_reducible refine r_andV ?_
  | with_reducible refine r_orV ?_
  | with_reducible refine r_notV ?_
  | with_reducible refine r_ifE ?_
  | with_reducible refine r_ifS ?_
  | with_reducible refine r_ret ?_
  | with_reducible refine r_retN ?_
  | with_reducible refine r_drop ?_
  | with_reducible refine r_next ?_
  | with_reducible refine r_sl ?_
  | with_reducible refine r_gsub ?_
  | with_reducible refine r_bm ?_
  | with_reducible refine r_bm0 ?_
  | with_reducible refine r_tup ?_
  | with_reducible refine r_lst ?_
  | with_reducible refine r_isN ?_
  | with_reducible refine r_notN ?_
  | with_reducible refine r_chain ?_
  | with_reducible refine r_callK ?_
  | with_reducible refine r_isB ?_
  | with_reducible refine r_lcEio ?_
  | with_reducible refine r_forEi ?_
  | with_reducible refine r_lcTo ?_
  | with_reducible refine r_lcSo ?_
  | with_reducible refine r_m1 ?_
  | with_reducible refine r_dget ?_
  | with_reducible refine r_din ?_
  | with_reducible refine r_dnotin ?_
  | with_reducible refine r_starC ?_
  | with_reducible refine r_callKS ?_
  | with_reducible refine r_itt ?_
  | with_reducible refine r_iff ?_
  | with_reducible refine r_ittN ?_
  | with_reducible refine r_iffN ?_
  | ((with_reducible refine r_ittD ?rh ?_); (case rh => rfl))
  | ((with_reducible refine r_iffD ?rh ?_); (case rh => rfl))
  | ((with_reducible refine r_modP ?rh ?_); (case rh => decide))
  | ((with_reducible refine r_eq ?rh ?_); (case rh => rfl))
  | ((with_reducible refine r_eqP ?rh ?_); (case rh => rfl))
  | ((with_reducible refine r_ne ?rh ?_); (case rh => rfl)))
local macro_rules | `(tactic| walk_at "rd") => `(tactic| repeat walk_at "rd1")
local macro_rules | `(tactic| walk_at "isi") => `(tactic| first | refine r_isi (b := true) (by assumption) (by decide +kernel) ?_ | refine r_isi (b := false) (by assumption) (by decide +kernel) ?_)
local macro_rules | `(tactic| walk_at "rs1") => `(tactic| first
  | with_reducible refine r_seq ?_
  | with_reducible refine r_asg ?_
  | with_reducible refine r_gname ?_
  | with_reducible refine r_ret ?_)
local macro_rules | `(tactic| walk_at "rs") => `(tactic| repeat walk_at "rs1")

def AB : Str := "\n !\"#$&'()*+,-./0123456789:;<=>?@ABCDEFGHIJKLMNOPQRSTUVWXYZ[\\]^_`abcdefghijklmnopqrstuvwxyz{|}~"
def InA (z : Str) : Prop := ∀ c ∈ cs z, c ∈ cs AB
structure Rsp (x : Sp3) : Prop where
  a : 0 ≤ x.1
  c : 0 ≤ x.2.1
  t : InA x.2.2
  tl : x.2.2.length ≤ 1000
  m : 0 < x.2.1 ∨ x.2.2 ≠ ""
structure Rrd (n : Int) (S : List Sp3) : Prop where
  ne : S ≠ []
  ok : ∀ x ∈ S, Rsp x ∧ x.1 + x.2.1 ≤ n
  fol : ∀ i a b, S[i]? = some a → S[i + 1]? = some b → a.1 < b.1 ∧ a.1 + a.2.1 ≤ b.1
  len : S.length ≤ 1000
def s3 (x : Sp3) : Int × Int × List Nat := (x.1, x.2.1, cs x.2.2)
def spFs : Sp := fun vs H Q _ => ∃ z : Str, vs = [.str z] ∧ InA z ∧ ∀ H', Ex H H' → Q .non H'
def spIt : Sp := fun vs H Q _ => ∃ z : Str, vs = [.str z] ∧ InA z ∧ ∀ H', Ex H H' → Q (.bl true) H'
def spNum : Sp := fun vs H Q _ => ∃ i : Int, vs = [.int i] ∧ 0 ≤ i ∧ Q (.bl true) H
def spIs : Sp := fun vs H Q _ => ∃ (v : V) (x : Sp3), vs = [v] ∧ TrS H v x ∧ Rsp x ∧ ∀ H', Ex H H' → Q (.bl true) H'
def spFol : Sp := fun vs H Q _ => ∃ (v u : V) (x y : Sp3), vs = [v, u] ∧ TrS H v x ∧ TrS H u y ∧ x.1 < y.1 ∧ x.1 + x.2.1 ≤ y.1 ∧ Q (.bl true) H
def spChk (K : PySem.W.Frag) : Sp := fun vs H Q _ => ∃ (n : Int) (v : V) (S : List Sp3), vs = [.int n, v] ∧ TupV K TrS H v S ∧ Rrd n S ∧ ∀ H', Ex H H' → Q .non H'
def spSpl (K : PySem.W.Frag) : Sp := fun vs H Q _ => ∃ (z : Str) (v : V) (S : List Sp3), vs = [.str z, v] ∧ TupV K TrS H v S ∧ Rrd z.length S ∧ z.length ≤ 1000 ∧ ∀ o H', Ex H H' → cs o = spl (cs z) 0 (S.map s3) → Q (.str o) H'
section
variable {P : Program} {w : World} {K : PySem.W.Frag} {mg : Str → Option Value} {base : Heap}
theorem ok_init_BadSplice (T : Txt K mg) : FnOk P w K mg base CX0 1 T.ai_BadSplice T.d_BadSplice ["self", "at"] (spInit1 T.c_BadSplice "at") := by
  refine T.F_BadSplice.ok sc_init_BadSplice (fun vs H Q E h => ?_) (fun cdv A outer s H vs Q E hr h => ?_)
  · obtain ⟨a, v, rfl, _⟩ := h
    rfl
  · obtain ⟨a, v, rfl, ha, q⟩ := h
    refine ⟨_, pss_one (ps_ost (pv 0) (pv 1)), ?_⟩
    exact ⟨v, rfl, .ref a, rfl, a, T.c_BadSplice, rfl, T.o_BadSplice, T.na_BadSplice_at, .inl ⟨ha, fun dx n1 n2 => q dx n1 n2⟩⟩
theorem ok_first_strange (T : Txt K mg) : FnOk P w K mg base CX0 1 T.a_first_strange T.d_first_strange ["text"] spFs := by
  refine T.F_first_strange.ok sc_first_strange (fun vs H Q E h => ?_) (fun cdv A outer s H vs Q E hr h => ?_)
  · obtain ⟨z, rfl, _⟩ := h
    rfl
  · obtain ⟨z, rfl, hz, q⟩ := h
    refine ⟨_, (pss_cons (ps_for PassesOwn.never rfl (pi_enumS (by rfl) T.n_enumerate (pa_cons (pv 0) pa_nil)) (pg_tup rfl (pgs_cons (pg_name (i := 1) sc_first_strange.nd rfl (Or.inl rfl)) (pgs_cons (pg_name (i := 2) sc_first_strange.nd rfl (Or.inl rfl)) pgs_nil))) (pss_one (ps_if (pt_cmpR op_notInU (pv 2) (pe_glob (v := .str "\n !\"#$&'()*+,-./0123456789:;<=>?@ABCDEFGHIJKLMNOPQRSTUVWXYZ[\\]^_`abcdefghijklmnopqrstuvwxyz{|}~") rfl T.g_ALPHABET ⟨_, rfl⟩) (by rfl)) (pss_one (ps_ret (pv 1))) pss_nil)))
        (pss_one (ps_ret pe_non))), ?_⟩
    walk_at "rd"
    refine ⟨z, rfl, for_it walk_E (fun i σ H' => ∃ y1 y2, σ = [some (.str z), y1, y2] ∧ Ex H H') ⟨none, none, rfl, Same.refl H⟩ (fun _ _ _ _ _ => trivial) (fun i x σ H1 H' hi hP y => ?_) (fun σ H1 hP => ?_)⟩
    · obtain ⟨y1, y2, rfl, e⟩ := hP
      obtain ⟨T', x', rfl, hT, rfl, c, hc, rfl⟩ := y
      refine r_gtup (sqT upd_same) rfl ?_
      walk_at "rd"
      refine r_niS ?_
      walk_at "rd"
      refine r_iteN (fun hn => ?_) (fun hm => ?_)
      · exact absurd (hz c (List.mem_of_getElem? (by rw [Array.getElem?_toList]; exact hc))) hn
      · walk_at "rd"
        exact ⟨_, _, rfl, e.trans (Same.new (Same.refl _) hT)⟩
    · obtain ⟨y1, y2, rfl, e⟩ := hP
      walk_at "rd"
      exact q _ e
theorem ok_is_text (T : Txt K mg) : FnOk P w K mg base CX0 2 T.a_is_text T.d_is_text ["thing"] spIt := by
  refine T.F_is_text.ok sc_is_text (fun vs H Q E h => ?_) (fun cdv A outer s H vs Q E hr h => ?_)
  · obtain ⟨z, rfl, _⟩ := h
    rfl
  · obtain ⟨z, rfl, hz, q⟩ := h
    refine ⟨_, (pss_one (ps_ret (pe_and (pe_callB call_isi (by rfl) T.n_isinstance (by decide +kernel) (pa_cons (pv 0) (pa_cons (pe_bltn (v := .ty "str") (by rfl) T.n_str (by decide +kernel) rfl) pa_nil))) (pe_one (pe_cmpR op_isU (pe_call (ok_first_strange T) hr (by rfl) T.g_first_strange T.F_first_strange.kp T.b_first_strange .nil pass0 (pa_cons (pv 0) pa_nil)) pe_non (nomark _)))))), ?_⟩
    have ty : TyX K H (.str z) (.type "str") := .base (.str z)
    walk_at "rd"
    walk_at "isi"
    walk_at "rd"
    refine ⟨z, rfl, hz, fun H' e => ?_⟩
    walk_at "rd"
    exact q H' e
theorem ok_is_number (T : Txt K mg) : FnOk P w K mg base CX0 1 T.a_is_number T.d_is_number ["thing"] spNum := by
  refine T.F_is_number.ok sc_is_number (fun vs H Q E h => ?_) (fun cdv A outer s H vs Q E hr h => ?_)
  · obtain ⟨z, rfl, _⟩ := h
    rfl
  · obtain ⟨i, rfl, hi, q⟩ := h
    refine ⟨_, (pss_one (ps_ret (pe_and (pe_callB call_isi (by rfl) T.n_isinstance (by decide +kernel) (pa_cons (pv 0) (pa_cons (pe_bltn (v := .ty "int") (by rfl) T.n_int (by decide +kernel) rfl) pa_nil))) (pe_and (pe_not (pe_callB call_isi (by rfl) T.n_isinstance (by decide +kernel) (pa_cons (pv 0) (pa_cons (pe_bltn (v := .ty "bool") (by rfl) T.n_bool (by decide +kernel) rfl) pa_nil)))) (pe_one (pe_cmpR op_ge (pv 0) pe_int (nomark _))))))), ?_⟩
    have ty : TyX K H (.int i) (.type "int") := .base (.int i)
    walk_at "rd"
    iterate 2 (walk_at "isi"; walk_at "rd")
    rw [decide_eq_true hi]
    exact q
theorem ok_is_splice (T : Txt K mg) : FnOk P w K mg base CX0 3 T.a_is_splice T.d_is_splice ["thing"] spIs := by
  refine T.F_is_splice.ok sc_is_splice (fun vs H Q E h => ?_) (fun cdv A outer s H vs Q E hr h => ?_)
  · obtain ⟨z, x, rfl, _⟩ := h
    rfl
  · obtain ⟨v, x, rfl, ⟨p, rfl, hp⟩, r, q⟩ := h
    refine ⟨_, (pss_cons (ps_if (PW.pt (pw_or (pt_not (pt_val (pe_callB call_isi (by rfl) T.n_isinstance (by decide +kernel) (pa_cons (pv 0) (pa_cons (pe_bltn (v := .ty "tuple") (by rfl) T.n_tuple (by decide +kernel) rfl) pa_nil))))) (pw_or1 (pt_cmpR (op_neU hr.units) (pe_callB call_lenU (by rfl) T.n_len (by decide +kernel) (pa_cons (pv 0) pa_nil)) pe_int (nomark _))))) (pss_one (ps_ret pe_bl)) pss_nil)
        (pss_cons (ps_asg (pv 0) (pg_tup rfl (pgs_cons (pg_name (i := 1) sc_is_splice.nd rfl (Or.inl rfl)) (pgs_cons (pg_name (i := 2) sc_is_splice.nd rfl (Or.inl rfl)) (pgs_cons (pg_name (i := 3) sc_is_splice.nd rfl (Or.inl rfl)) pgs_nil)))))
        (pss_one (ps_ret (pe_and (pe_call (ok_is_number T) (hr.mono (by decide)) (by rfl) T.g_is_number T.F_is_number.kp T.b_is_number .nil pass0 (pa_cons (pv 1) pa_nil)) (pe_and (pe_call (ok_is_number T) (hr.mono (by decide)) (by rfl) T.g_is_number T.F_is_number.kp T.b_is_number .nil pass0 (pa_cons (pv 2) pa_nil)) (pe_and (pe_call (ok_is_text T) hr (by rfl) T.g_is_text T.F_is_text.kp T.b_is_text .nil pass0 (pa_cons (pv 3) pa_nil)) (pe_one (pe_or (pe_cmpR op_gt (pv 2) pe_int (nomark _)) (pe_one (pe_cmpR (op_neU hr.units) (pv 3) pe_str (nomark _)))))))))))), ?_⟩
    have ty : TyX K H (.ref p) (.type "tuple") := .base (.tup hp)
    walk_at "rd"
    walk_at "isi"
    walk_at "rd"
    refine r_lenT (sqT hp) ?_
    walk_at "rd"
    refine r_gtup (sqT hp) rfl ?_
    walk_at "rd"
    refine ⟨_, rfl, r.a, ?_⟩
    walk_at "rd"
    refine ⟨_, rfl, r.c, ?_⟩
    walk_at "rd"
    refine ⟨_, rfl, r.t, fun H' e => ?_⟩
    walk_at "rd"
    refine r_ite (fun c => ?_) (fun c => ?_)
    · exact q H' e
    · walk_at "rd"
      have hm : x.2.2 ≠ "" := r.m.resolve_left c
      rw [show (!decide (V.str x.2.2 = V.str "")) = true from by rw [decide_eq_false (fun z => hm (V.str.inj z))]; rfl]
      exact q H' e
theorem ok_follows (T : Txt K mg) : FnOk P w K mg base CX0 1 T.a_follows T.d_follows ["before", "splice"] spFol := by
  refine T.F_follows.ok sc_follows (fun vs H Q E h => ?_) (fun cdv A outer s H vs Q E hr h => ?_)
  · obtain ⟨z, x, _, _, rfl, _⟩ := h
    rfl
  · obtain ⟨v, u, x, y, rfl, ⟨p, rfl, hp⟩, ⟨p2, rfl, hp2⟩, h1, h2, q⟩ := h
    refine ⟨_, (pss_one (ps_ret (pe_and (pe_cmpR op_gt (pe_ix ix_seq (pv 1) pe_int (fun _ _ => rfl)) (pe_ix ix_seq (pv 0) pe_int (fun _ _ => rfl)) (nomark _)) (pe_one (pe_cmpR op_ge (pe_ix ix_seq (pv 1) pe_int (fun _ _ => rfl)) (pe_op op_addU (pe_ix ix_seq (pv 0) pe_int (fun _ _ => rfl)) (pe_ix ix_seq (pv 0) pe_int (fun _ _ => rfl))) (nomark _)))))), ?_⟩
    walk_at "rd"
    refine r_ixT (sqT hp2) (atI_nat (j := 0) rfl) ?_
    walk_at "rd"
    refine r_ixT (sqT hp) (atI_nat (j := 0) rfl) ?_
    walk_at "rd"
    refine r_ite (fun _ => ?_) (fun c => absurd h1 c)
    walk_at "rd"
    refine r_ixT (sqT hp2) (atI_nat (j := 0) rfl) ?_
    walk_at "rd"
    refine r_ixT (sqT hp) (atI_nat (j := 0) rfl) ?_
    walk_at "rd"
    refine r_ixT (sqT hp) (atI_nat (j := 1) rfl) ?_
    walk_at "rd"
    rw [decide_eq_true h2]
    exact q
theorem ok_check_round (T : Txt K mg) : FnOk P w K mg base CX0 4 T.a_check_round T.d_check_round ["size", "splices"] (spChk K) := by
  refine T.F_check_round.ok sc_check_round (fun vs H Q E h => ?_) (fun cdv A outer s H vs Q E hr h => ?_)
  · obtain ⟨z, x, _, rfl, _⟩ := h
    rfl
  · obtain ⟨n, v, S, rfl, ⟨p, xs, rfl, hp, hx⟩, r, q⟩ := h
    refine ⟨_, (pss_cons (ps_if (pt_cmpR (op_eqU hr.units) (pe_callB call_lenU (by rfl) T.n_len (by decide +kernel) (pa_cons (pv 1) pa_nil)) pe_int (nomark _)) (pss_one ps_never) pss_nil)
        (pss_one (ps_for PassesOwn.never rfl (pi_enumT (by rfl) T.n_enumerate (pa_cons (pv 1) pa_nil)) (pg_tup rfl (pgs_cons (pg_name (i := 2) sc_check_round.nd rfl (Or.inl rfl)) (pgs_cons (pg_name (i := 3) sc_check_round.nd rfl (Or.inl rfl)) pgs_nil))) (pss_cons (ps_if (PW.pt (pw_or (pt_not (pt_val (pe_call (ok_is_splice T) hr (by rfl) T.g_is_splice T.F_is_splice.kp T.b_is_splice .nil pass0 (pa_cons (pv 3) pa_nil)))) (pw_or1 (pt_cmpR op_gt (pe_op op_addU (pe_ix ix_seq (pv 3) pe_int (fun _ _ => rfl)) (pe_ix ix_seq (pv 3) pe_int (fun _ _ => rfl))) (pv 0) (nomark _))))) (pss_one ps_never) pss_nil)
        (pss_one (ps_if (PW.pt (pw_and (pt_cmpR op_gt (pv 2) pe_int (nomark _)) (pw_and1 (pt_not (pt_val (pe_call (ok_follows T) (hr.mono (by decide)) (by rfl) T.g_follows T.F_follows.kp T.b_follows .nil pass0 (pa_cons (pe_ix ix_seq (pv 1) (pe_op op_sub (pv 2) pe_int) (fun _ _ => rfl)) (pa_cons (pv 3) pa_nil)))))))) (pss_one ps_never) pss_nil)))))), ?_⟩
    have sl := hx.len
    walk_at "rd"
    refine r_lenT hp.sq ?_
    walk_at "rd"
    have l0 : 0 < S.length := List.length_pos_iff.mpr r.ne
    refine r_ite (fun c => absurd (V.int.inj c) (by omega)) (fun _ => ?_)
    walk_at "rd"
    refine l_E hp.sq (fun i σ H' => ∃ y2 y3, σ = [some (.int n), some (.ref p), y2, y3] ∧ Ex H H') ⟨none, none, rfl, Same.refl H⟩ (fun i σ H' h => ?_) (fun i x σ H1 t hx' hP ht => ?_) (fun σ H1 hP => ?_)
    · obtain ⟨_, _, _, e⟩ := h
      exact (hp.up e).sq
    · obtain ⟨y2, y3, rfl, e⟩ := hP
      obtain ⟨a, ha, hv⟩ := hx.get hx'
      have hm := r.ok a (List.mem_of_getElem? ha)
      refine r_gtup (sqT upd_same) rfl ?_
      have e1 : Ex H (upd H1 t (.tup [.int (i : Nat), x])) := e.trans (Same.new (Same.refl _) ht)
      walk_at "rd"
      refine ⟨x, a, rfl, imm (.ex e1) hv, hm.1, fun H2 e2 => ?_⟩
      have e12 := e1.trans e2
      obtain ⟨px, rfl, hpx⟩ := id hv
      walk_at "rd"
      refine r_ixT (sqT (e12 _ _ hpx)) (atI_nat (j := 0) rfl) ?_
      walk_at "rd"
      refine r_ixT (sqT (e12 _ _ hpx)) (atI_nat (j := 1) rfl) ?_
      walk_at "rd"
      refine r_ite (fun c => absurd hm.2 (by omega)) (fun _ => ?_)
      walk_at "rd"
      refine r_ite (fun c => ?_) (fun c => ?_)
      · walk_at "rd"
        have i1 : i - 1 < S.length := by have := (List.getElem?_eq_some_iff.mp ha).1; omega
        have hb : S[i - 1]? = some (S[i - 1]'i1) := List.getElem?_eq_getElem i1
        obtain ⟨w', hw', hr'⟩ := hx.get' hb
        have hf := r.fol (i - 1) _ a hb (by rw [show i - 1 + 1 = i by omega]; exact ha)
        refine r_ixT (hp.up e12).sq (at_g (j := i - 1) (by omega) hw') ?_
        walk_at "rd"
        refine ⟨w', _, _, a, rfl, imm (.ex e12) hr', imm (.ex e12) hv, hf.1, hf.2, ?_⟩
        walk_at "rd"
        exact ⟨_, _, rfl, e12⟩
      · walk_at "rd"
        exact ⟨_, _, rfl, e12⟩
    · obtain ⟨y1, y2, rfl, e⟩ := hP
      walk_at "rd"
      exact q _ e
theorem sum_bound {ps : List Str} {b : Nat} (h : ∀ x ∈ ps, x.length ≤ b) : (ps.map (·.length)).sum ≤ b * ps.length := by
  induction ps with
  | nil => exact Nat.zero_le _
  | cons x r ih =>
    have h1 := h x (List.mem_cons_self ..)
    have h2 := ih fun y hy => h y (List.mem_cons_of_mem _ hy)
    rw [List.map_cons, List.sum_cons, List.length_cons, Nat.mul_succ]
    omega
theorem ok_spliced (T : Txt K mg) : FnOk P w K mg base CX0 5 T.a_spliced T.d_spliced ["text", "splices"] (spSpl K) := by
  refine T.F_spliced.ok sc_spliced (fun vs H Q E h => ?_) (fun cdv A outer s H vs Q E hr h => ?_)
  · obtain ⟨z, x, _, rfl, _⟩ := h
    rfl
  · obtain ⟨z, v, S, rfl, hv0, r, hz, q⟩ := h
    obtain ⟨p, xs, rfl, hp, hx⟩ := id hv0
    refine ⟨_, (pss_cons (ps_expr (pe_call (ok_check_round T) hr (by rfl) T.g_check_round T.F_check_round.kp T.b_check_round .nil pass0 (pa_cons (pe_callB call_lenU (by rfl) T.n_len (by decide +kernel) (pa_cons (pv 0) pa_nil)) (pa_cons (pv 1) pa_nil))))
        (pss_cons (ps_set (i := 2) sc_spliced.nd rfl (Or.inl rfl) (pe_lst pa_nil))
        (pss_cons (ps_set (i := 3) sc_spliced.nd rfl (Or.inl rfl) pe_int)
        (pss_cons (ps_for PassesOwn.never rfl (pi_tup (pv 1)) (pg_tup rfl (pgs_cons (pg_name (i := 4) sc_spliced.nd rfl (Or.inl rfl)) (pgs_cons (pg_name (i := 5) sc_spliced.nd rfl (Or.inl rfl)) (pgs_cons (pg_name (i := 6) sc_spliced.nd rfl (Or.inl rfl)) pgs_nil)))) (pss_cons (ps_expr (pe_bm PySem.F.plainAttrs_list PySem.F.slot_list_append PySem.F.type_list_append mt_append (pv 2) (pa_cons (pe_slice sl_U (pv 0) (po_some (pv 3)) (po_some (pv 4))) pa_nil)))
        (pss_cons (ps_expr (pe_bm PySem.F.plainAttrs_list PySem.F.slot_list_append PySem.F.type_list_append mt_append (pv 2) (pa_cons (pv 6) pa_nil)))
        (pss_one (ps_set (i := 3) sc_spliced.nd rfl (Or.inl rfl) (pe_op op_addU (pv 4) (pv 5)))))))
        (pss_cons (ps_expr (pe_bm PySem.F.plainAttrs_list PySem.F.slot_list_append PySem.F.type_list_append mt_append (pv 2) (pa_cons (pe_slice sl_U (pv 0) (po_some (pv 3)) po_none) pa_nil)))
        (pss_one (ps_ret (pe_join pe_str (pv 2))))))))), ?_⟩
    have zl : z.length ≤ sizeLine := by rw [sizeLine_eq]; omega
    have xl := hx.len
    walk_at "rd"
    refine r_lenS zl ?_
    walk_at "rd"
    refine ⟨_, _, S, rfl, hv0, r, fun H1 e1 => ?_⟩
    walk_at "rd"
    refine r_small nsz fun L hL => ?_
    have eL : Ex H (upd H1 L (.lst [])) := e1.trans (Same.new (Same.refl _) hL)
    have hLH : H L = none := e1.free hL
    walk_at "rd"
    refine l_T (hp.up eL).sq (fun i σ H' => ∃ (d : Int) (y4 y5 y6 : Option V) (ps : List Str), σ = [some (.str z), some (.ref p), some (.ref L), some (.int d), y4, y5, y6] ∧ Ex H H' ∧ H' L = some (.lst (ps.map V.str)) ∧ (ps.map cs).flatten ++ spl (cs z) d ((S.drop i).map s3) = spl (cs z) 0 (S.map s3) ∧ 0 ≤ d ∧ (∀ x ∈ ps, x.length ≤ 1000) ∧ ps.length ≤ 2 * i) ⟨0, none, none, none, [], rfl, eL, upd_same, rfl, Int.le_refl _, (fun x h => nomatch h), Nat.le_refl _⟩ (fun i σ H' h => ?_) (fun i x σ H2 hx' hP => ?_) (fun σ H2 hP => ?_)
    · obtain ⟨_, _, _, _, _, _, e, _⟩ := h
      exact (hp.up e).sq
    · obtain ⟨d, y4, y5, y6, ps, rfl, e, gL, hs, d0, hps, pl⟩ := hP
      obtain ⟨a, ha, px, rfl, hpx⟩ := hx.get hx'
      have il : i < S.length := (List.getElem?_eq_some_iff.mp ha).1
      have hm := r.ok a (List.mem_of_getElem? ha)
      have rl := r.len
      have hd : S.drop i = a :: S.drop (i + 1) := by
        obtain ⟨hi, e⟩ := List.getElem?_eq_some_iff.mp ha
        rw [List.drop_eq_getElem_cons hi, e]
      refine r_gtup (sqT (e _ _ hpx)) rfl ?_
      walk_at "rd"
      refine r_tyL (sqL gL) ?_
      obtain ⟨dn, rfl⟩ := Int.eq_ofNat_of_zero_le d0
      obtain ⟨an, han⟩ := Int.eq_ofNat_of_zero_le hm.1.a
      rw [han]
      walk_at "rd"
      refine r_slS zl ?_
      walk_at "rd"
      refine r_app gL (by rw [List.length_map]; exact Nat.lt_of_le_of_lt (show ps.length ≤ 3000 by omega) (by decide)) ?_
      walk_at "rd"
      refine r_tyL (sqL upd_same) ?_
      walk_at "rd"
      refine r_app upd_same (by rw [List.length_append, List.length_map]; exact Nat.lt_of_le_of_lt (show ps.length + 1 ≤ 3000 by omega) (by decide)) ?_
      walk_at "rd"
      refine ⟨_, _, _, _, ps ++ [_] ++ [_], rfl, Same.mut (Same.mut e hLH) hLH, by rw [upd_same, List.map_append, List.map_append]; rfl, ?_, ?_, fun x hx => ?_, by rw [List.length_append, List.length_append]; simp; omega⟩
      · rw [← hs, hd, List.map_cons, List.map_append, List.map_append, List.flatten_append, List.flatten_append, List.map_singleton, List.map_singleton, List.flatten_singleton, List.flatten_singleton, cs_cut]
        show _ = _ ++ (stx (cs z) dn a.1 ++ cs a.2.2 ++ spl (cs z) (a.1 + a.2.1) ((S.drop (i + 1)).map s3))
        have e5 : stx (cs z) dn a.1 = ((cs z).drop dn).take (an - dn) := by
          unfold stx
          rw [han]
          congr 1
          omega
        rw [e5, han]
        simp only [List.append_assoc]
      · have := hm.1.c
        omega
      · rcases List.mem_append.mp hx with h | h
        · rcases List.mem_append.mp h with h | h
          · exact hps x h
          · rw [List.mem_singleton.mp h]
            exact Nat.le_trans (cut_len _ _ _) hz
        · rw [List.mem_singleton.mp h]
          exact hm.1.tl
    · obtain ⟨d, y4, y5, y6, ps, rfl, e, gL, hs, d0, hps, pl⟩ := hP
      have rl := r.len
      obtain ⟨dn, rfl⟩ := Int.eq_ofNat_of_zero_le d0
      rw [xl, List.drop_length] at hs
      walk_at "rd"
      refine r_tyL (sqL gL) ?_
      walk_at "rd"
      refine r_slS zl ?_
      walk_at "rd"
      refine r_app gL (by rw [List.length_map]; exact Nat.lt_of_le_of_lt (show ps.length ≤ 3000 by omega) (by decide)) ?_
      walk_at "rd"
      have gl : (upd H2 L (.lst (ps.map V.str ++ [.str (cutS z (some (dn : Int)) none)]))) L = some (.lst ((ps ++ [cutS z (some (dn : Int)) none]).map V.str)) := by rw [upd_same, List.map_append]; rfl
      refine ⟨⟨_, rfl⟩, ?_⟩
      walk_at "rd"
      refine ⟨"", L, _, rfl, rfl, .inl (sqL gl), ?_, q _ _ (Same.mut e hLH) ?_⟩
      · have hb := sum_bound (ps := ps ++ [cutS z (some (dn : Int)) none]) (b := 1000) fun x hx => by
          rcases List.mem_append.mp hx with h | h
          · exact hps x h
          · rw [List.mem_singleton.mp h]
            exact Nat.le_trans (cut_len _ _ _) hz
        have h5 : ("" : Str).length = 0 := rfl
        rw [h5, Nat.mul_zero, Nat.add_zero]
        rw [List.length_append, List.length_singleton] at hb
        omega
      · rw [cs_join, List.map_append, List.flatten_append, List.map_singleton, List.flatten_singleton, cs_from, ← hs]
        rfl
end
end K46

namespace K46
open PySem PySem.Spec PyProof.Rows L2 Dk Q46
/-- one step of a reading -/
local macro_rules | `(tactic| walk_at "rd1") => `(tactic| first
  | ((with_reducible refine r_var (v := ?rv) ?rh ?_); (case rh => rfl))
  | with_reducible refine r_c ?_
  | with_reducible refine r_seq ?_
  | with_reducible refine r_asg ?_
  | with_reducible refine r_par ?_
  | with_reducible refine r_gname ?_
  | with_reducible refine r_op ?_
  | with_reducible refine r_forLo ?_
  | with_reducible refine r_forTo ?_
  | with_reducible refine r_forSo ?_
  | with_reducible refine r_forRo ?_
  | with_reducible refine r_forRvo ?_
  | with_reducible refine r_forZo ?_
  | with_reducible refine r_revS ?_
  | with_reducible refine r_lcRo ?_
  | with_reducible refine r_lcLo ?_
  | with_reducible refine r_yes ?_
  | with_reducible refine r_callK0 ?_
  | with_reducible refine r_break ?_
  | with_reducible refine r_continue ?_
  | with_reducible refine r_forR2o ?_
  | with_reducible refine r_forEo ?_
  | with_reducible refine r_forESo ?_
  | with_reducible refine r_xfo ?_
  | with_reducible refine r_noP ?_
  | with_reducible refine r_part ?_
  | with_reducible refine r_pI ?_
  | with_reducible refine r_gcons ?_
  | with_reducible refine r_gnil ?_
  | with_reducible refine r_mkO ?_
  | with_reducible refine r_un ?_
  | with_reducible refine r_addI ?_
  | with_reducible refine r_I0 ?_
  | with_reducible refine r_U ?_
  | with_reducible refine r_cons ?_
  | with_reducible refine r_nil ?_
  | with_reducible refine r_CB ?_
  | with_reducible refine r_call ?_
  | with_reducible refine r_callS ?_
  | with_reducible refine r_int ?_
  | with_reducible refine r_max ?_
  | with_reducible refine r_min ?_
  | with_reducible refine r_test ?_
  | with_reducible refine r_B ?_
  | with_reducible refine r_blv ?_
  | with_reducible refine r_and ?_
  | with_reducible refine r_or ?_
  | with_reducible refine r_not ?_
  | with_reducible refine r_andV ?_
  | with_reducible refine r_orV ?_
  | with_reducible refine r_notV ?_
  | with_reducible refine r_ifE ?_
  | with_reducible refine r_ifS ?_
  | with_reducible refine r_ret ?_
  | with_reducible refine r_retN ?_
  | with_reducible refine r_drop ?_
  | with_reducible refine r_next ?_
  | with_reducible refine r_sl ?_
  | with_reducible refine r_gsub ?_
  | with_reducible refine r_bm ?_
  | with_reducible refine r_bm0 ?_
  | with_reducible refine r_tup ?_
  | with_reducible refine r_lst ?_
  | with_reducible refine r_isN ?_
  | with_reducible refine r_notN ?_
  | with_reducible refine r_chain ?_
  | with_reducible refine r_callK ?_
  | with_reducible refine r_isB ?_
  | with_reducible refine r_lcEio ?_
  | with_reducible refine r_forEi ?_
  | with_reducible refine r_lcTo ?_
  | with_reducible refine r_lcSo ?_
  | with_reducible refine r_m1 ?_
  | with_reducible refine r_dget ?_
  | with_reducible refine r_din ?_
  | with_reducible refine r_dnotin ?_
  | with_reducible refine r_starC ?_
  | with_reducible refine r_callKS ?_
  | with_reducible refine r_itt ?_
  | with_reducible refine r_iff ?_
  | with_reducible refine r_ittN ?_
  | with_reducible refine r_iffN ?_
  | ((with_reducible refine r_ittD ?rh ?_); (case rh => rfl))
  | ((with_reducible refine r_iffD ?rh ?_); (case rh => rfl))
  | ((with_reducible refine r_modP ?rh ?_); (case rh => decide))
  | ((with_reducible refine r_eq ?rh ?_); (case rh => rfl))
  | ((with_reducible refine r_eqP ?rh ?_); (case rh => rfl))
  | ((with_reducible refine r_ne ?rh ?_); (case rh => rfl)))
local macro_rules | `(tactic| walk_at "rd") => `(tactic| repeat walk_at "rd1")
local macro_rules | `(tactic| walk_at "isi") => `(tactic| first | refine r_isi (b := true) (by assumption) (by decide +kernel) ?_ | refine r_isi (b := false) (by assumption) (by decide +kernel) ?_)
local macro_rules | `(tactic| walk_at "rs1") => `(tactic| first
  | with_reducible refine r_seq ?_
  | with_reducible refine r_asg ?_
  | with_reducible refine r_gname ?_
  | with_reducible refine r_ret ?_)
local macro_rules | `(tactic| walk_at "rs") => `(tactic| repeat walk_at "rs1")

def spSign : Sp := fun vs H Q _ => ∃ (f p : Addr) (b : Bool), vs = [.ref f, .bl b] ∧ (flow ML f p).B H ∧ ∀ c H', Drw (flow ML f p) H H' → c ∈ cs AB → Q (.str ⟨#[c]⟩) H'
def spText : Sp := fun vs H Q _ => ∃ (f p : Addr) (n : Nat), vs = [.ref f, .int (n : Nat)] ∧ (flow ML f p).B H ∧ n ≤ 500 ∧ ∀ z H', Drw (flow ML f p) H H' → InA z → z.length = n → Q (.str z) H'
/-- six numbers -/
def Six (H : Hp) (a : Addr) : Prop := ∃ ns : List Int, H a = some (.lst (ns.map V.int)) ∧ ns.length = 6 ∧ ∀ n ∈ ns, 0 ≤ n
def spPicks (K : PySem.W.Frag) : Sp := fun vs H Q _ => ∃ (f p : Addr) (n m : Nat) (g s : Addr), vs = [.ref f, .int (n : Nat), .int (m : Nat), .ref g, .ref s] ∧ (flow ML f p).B H ∧ Six H g ∧ Six H s ∧ ¬ (flow ML f p).A g ∧ ¬ (flow ML f p).A s ∧ m ≤ 200 ∧
  ∀ v T H', Drw (flow ML f p) H H' → TupV K PrV H' v T → Ord n T → T.length ≤ m → Q v H'
section
variable {P : Program} {w : World} {K : PySem.W.Frag} {mg : Str → Option Value} {base : Heap}
theorem sign_at {s : Str} {v : Nat} (h : v < s.length) : ∃ c, atI s.cps.toList (v : Nat) = some c ∧ c ∈ cs s := by
  have hl : v < (cs s).length := by rw [cs_len]; exact h
  exact ⟨(cs s)[v], atI_nat (List.getElem?_eq_getElem hl), List.getElem_mem _⟩
theorem ok_law_sign (T : Txt K mg) : FnOk P w K mg base CX0 2 T.a_law_sign T.d_law_sign ["_law_flow", "_law_few"] spSign := by
  refine T.F_law_sign.ok sc_law_sign (fun vs H Q E h => ?_) (fun cdv A outer s H vs Q E hr h => ?_)
  · obtain ⟨f, p, b, rfl, _⟩ := h
    rfl
  · obtain ⟨f, p, b, rfl, hB, q⟩ := h
    refine ⟨_, (pss_cons (ps_set (i := 2) sc_law_sign.nd rfl (Or.inl rfl) pe_str)
        (Evl.pss_cut (ps_if (pt_not (pt_val (pv 1))) (pss_cons (ps_set (i := 2) sc_law_sign.nd rfl (Or.inl rfl) pe_str)
        (pss_one (ps_set (i := 2) sc_law_sign.nd rfl (Or.inl rfl) (pe_op op_addU (pv 2) pe_str)))) pss_nil)
        (pss_one (ps_ret (pe_ix ix_seq (pv 2) (pe_call (ok_law_take T) hr (by rfl) T.g_law_take T.F_law_take.kp T.b_law_take .nil pass0 (pa_cons (pv 0) (pa_cons (pe_callB call_lenU (by rfl) T.n_len (by decide +kernel) (pa_cons (pv 2) pa_nil)) pa_nil))) (fun _ _ => rfl)))))), ?_⟩
    walk_at "rd"
    refine ⟨fun σ H1 => ∃ s : Str, σ = [some (.ref f), some (.bl b), some (.str s)] ∧ H1 = H ∧ 0 < s.length ∧ s.length ≤ 100 ∧ ∀ c ∈ cs s, c ∈ cs AB, ?_, ?_⟩
    · cases b with
      | true =>
        walk_at "rd"
        exact ⟨_, rfl, rfl, by decide, by decide, by decide⟩
      | false =>
        walk_at "rd"
        refine r_addS (by decide +kernel) ?_
        walk_at "rd"
        exact ⟨_, rfl, rfl, by decide +kernel, by decide +kernel, by decide +kernel⟩
    · rintro σ H1 ⟨s, rfl, rfl, s0, s1, hs⟩
      have sl : s.length ≤ sizeLine := by rw [sizeLine_eq]; omega
      walk_at "rd"
      refine r_lenS sl ?_
      walk_at "rd"
      refine ⟨f, p, _, rfl, hB, by omega, by omega, fun v H2 hv D => ?_⟩
      obtain ⟨c, hc, hm⟩ := sign_at (s := s) (v := v) (by omega)
      refine r_ixS sl hc ?_
      exact q c H2 D (hs c hm)
theorem ok_law_text (T : Txt K mg) : FnOk P w K mg base CX0 3 T.a_law_text T.d_law_text ["_law_flow", "_law_size"] spText := by
  refine T.F_law_text.ok sc_law_text (fun vs H Q E h => ?_) (fun cdv A outer s H vs Q E hr h => ?_)
  · obtain ⟨f, p, b, rfl, _⟩ := h
    rfl
  · obtain ⟨f, p, n, rfl, hB, hn, q⟩ := h
    refine ⟨_, (pss_cons (ps_set (i := 2) sc_law_text.nd rfl (Or.inr rfl) (pe_cmpR (op_eqU hr.units) (pe_call (ok_law_take T) (hr.mono (by decide)) (by rfl) T.g_law_take T.F_law_take.kp T.b_law_take .nil pass0 (pa_cons (pv 0) (pa_cons pe_int pa_nil))) pe_int (nomark _)))
        (pss_one (ps_ret (pe_join pe_str (pe_lc (own := [("_law_k", 3)]) (g := gName 3) rfl sc_law_text.nd (pi_range1 (by rfl) T.n_range (pa_cons (pv 1) pa_nil)) (blkOk_by (N := N_law_text) (sc := defScope s_law_text) (by decide +kernel)) (fun _ _ _ _ _ => pg_name (i := 3) sc_law_text.nd rfl (Or.inl rfl)) (fun _ _ _ _ _ => pts_nil) (fun _ _ _ _ _ => (pe_call (ok_law_sign T) hr (by rfl) T.g_law_sign T.F_law_sign.kp T.b_law_sign .nil pass0 (pa_cons (pv 0) (pa_cons (pv 2) pa_nil))))))))), ?_⟩
    walk_at "rd"
    refine ⟨f, p, 2, rfl, hB, by decide, by decide, fun v H1 hv D1 => ?_⟩
    walk_at "rd"
    refine ⟨⟨_, rfl⟩, ?_⟩
    walk_at "rd"
    refine l_lcR (by omega) (by omega) (fun C i H2 => Drw (flow ML f p) H H2 ∧ ∃ ls : List Nat, H2 C = some (.lst ((ls.map fun c => (⟨#[c]⟩ : Str)).map V.str)) ∧ ls.length = i ∧ ∀ c ∈ ls, c ∈ cs AB) (fun C hC => ⟨D1.new hC, [], upd_same, rfl, fun _ h => nomatch h⟩) (fun C i H2 hC hi hP => ?_) (fun C H2 hC hP => ?_)
    · obtain ⟨D2, ls, gC, hl, hc⟩ := hP
      have na := (flow ML f p).fresh D1.st hC
      have hCH : H C = none := by
        cases e : H C with
        | none => rfl
        | some o => rw [D1.at na e] at hC; cases hC
      walk_at "rd"
      refine ⟨rfl, ?_⟩
      walk_at "rd"
      refine ⟨f, p, _, rfl, D2.st, fun c H3 D3 hcm => ?_⟩
      refine ⟨_, D3.at na gC, by rw [List.length_map, List.length_map]; exact Nat.lt_of_le_of_lt (show ls.length ≤ 600 by omega) (by decide), (D2.trans D3).put hCH na, ls ++ [c], by rw [upd_same, List.map_append, List.map_append]; rfl, by rw [List.length_append, hl]; rfl, fun x hx => ?_⟩
      rcases List.mem_append.mp hx with h | h
      · exact hc x h
      · rw [List.mem_singleton.mp h]; exact hcm
    · obtain ⟨D2, ls, gC, hl, hc⟩ := hP
      rw [Int.toNat_natCast] at hl
      have hcs : cs (Txt.join "" (ls.map fun c => (⟨#[c]⟩ : Str))) = ls := by
        rw [cs_join, List.map_map]
        clear hl hc gC
        induction ls with
        | nil => rfl
        | cons c r ih => rw [List.map_cons, List.flatten_cons, ih]; rfl
      refine ⟨"", C, _, rfl, rfl, .inl (sqL gC), ?_, q _ _ D2 (fun x hx => hc x (by rw [hcs] at hx; exact hx)) (by rw [← cs_len, hcs]; exact hl)⟩
      have hb := sum_bound (ps := ls.map fun c => (⟨#[c]⟩ : Str)) (b := 1) fun x hx => by
        obtain ⟨c, _, rfl⟩ := List.mem_map.mp hx
        exact Nat.le_refl 1
      have h5 : ("" : Str).length = 0 := rfl
      rw [h5, Nat.mul_zero, Nat.add_zero]
      rw [List.length_map] at hb
      omega
/-- what is drawn so far, and where it ends -/
def Last (T : List Iv) (spot : Int) (c : Bool) : Prop := (T = [] ∧ spot = 0 ∧ c = false) ∨ ∃ T0 a, T = T0 ++ [a] ∧ spot = hi a ∧ c = decide (Q46.lo a = hi a)
theorem ord_snoc {N spot low high : Int} {c : Bool} {T : List Iv} {a : Iv} (h : Ord N T) (l : Last T spot c) (h0 : spot ≤ low) (h1 : low ≤ high) (h2 : high ≤ N) (hs : 0 ≤ spot) (no : ¬ (0 < T.length ∧ low = spot ∧ (c = true ∨ low = high))) (ea : Q46.lo a = low) (eb : hi a = high) : Ord N (T ++ [a]) := by
  refine ⟨fun x hx => ?_, ?_⟩
  · rcases List.mem_append.mp hx with g | g
    · exact h.pos x g
    · rw [List.mem_singleton.mp g]
      omega
  · rw [List.pairwise_append]
    refine ⟨h.pw, List.pairwise_singleton _ _, fun x hx y hy => ?_⟩
    obtain rfl := List.mem_singleton.mp hy
    rcases l with ⟨rfl, _⟩ | ⟨T0, z, rfl, e1, e2⟩
    · cases hx
    · have hz := lo_hi z
      rw [List.length_append, List.length_singleton, e2, decide_eq_true_iff] at no
      rcases List.mem_append.mp hx with g | g
      · have := (List.pairwise_append.mp h.pw).2.2 x g z (List.mem_singleton.mpr rfl)
        omega
      · rw [List.mem_singleton.mp g]
        by_cases c1 : low = spot
        · have : ¬ (Q46.lo z = hi z ∨ low = high) := fun g => no ⟨by omega, c1, g⟩
          omega
        · omega
theorem six_at {ns : List Int} (hl : ns.length = 6) (h : ∀ n ∈ ns, 0 ≤ n) {v : Nat} (hv : (v : Int) < 6) : ∃ x : Nat, (ns.map V.int)[v]? = some (V.int (x : Nat)) := by
  have hv' : v < ns.length := by omega
  obtain ⟨x, hx⟩ := Int.eq_ofNat_of_zero_le (h _ (List.getElem_mem hv'))
  exact ⟨x, by rw [List.getElem?_map, List.getElem?_eq_getElem hv', hx]; rfl⟩
theorem ok_law_picks (T : Txt K mg) : FnOk P w K mg base CX0 2 T.a_law_picks T.d_law_picks ["_law_flow", "_law_size", "_law_most", "_law_gaps", "_law_sizes"] (spPicks K) := by
  refine T.F_law_picks.ok sc_law_picks (fun vs H Q E h => ?_) (fun cdv A outer s H vs Q E hr h => ?_)
  · obtain ⟨f, p, n, m, g, s, rfl, _⟩ := h
    rfl
  · obtain ⟨f, p, n, m, g, sz, rfl, hB, ⟨gs, hg, gl, g0⟩, ⟨ss, hs, sl, s0⟩, nag, nas, hm, q⟩ := h
    refine ⟨_, (pss_cons (ps_set (i := 5) sc_law_picks.nd rfl (Or.inl rfl) (pe_lst pa_nil))
        (pss_cons (ps_set (i := 6) sc_law_picks.nd rfl (Or.inl rfl) pe_int)
        (pss_cons (ps_set (i := 7) sc_law_picks.nd rfl (Or.inl rfl) pe_bl)
        (pss_cons (ps_for PassesOwn.never rfl (pi_range1 (by rfl) T.n_range (pa_cons (pv 2) pa_nil)) (pg_name (i := 8) sc_law_picks.nd rfl (Or.inl rfl)) (pss_cons (ps_set (i := 9) sc_law_picks.nd rfl (Or.inl rfl) (pe_op op_addU (pv 6) (pe_ix ix_seq (pv 3) (pe_call (ok_law_take T) hr (by rfl) T.g_law_take T.F_law_take.kp T.b_law_take .nil pass0 (pa_cons (pv 0) (pa_cons pe_int pa_nil))) (fun _ _ => rfl))))
        (pss_cons (ps_set (i := 10) sc_law_picks.nd rfl (Or.inl rfl) (pe_callB (call_minU rfl) (by rfl) T.n_min (by decide +kernel) (pa_cons (pv 1) (pa_cons (pe_op op_addU (pv 9) (pe_ix ix_seq (pv 4) (pe_call (ok_law_take T) hr (by rfl) T.g_law_take T.F_law_take.kp T.b_law_take .nil pass0 (pa_cons (pv 0) (pa_cons pe_int pa_nil))) (fun _ _ => rfl))) pa_nil))))
        (pss_cons (ps_set (i := 11) sc_law_picks.nd rfl (Or.inl rfl) (pe_cmpR (op_eqU hr.units) (pe_call (ok_law_take T) hr (by rfl) T.g_law_take T.F_law_take.kp T.b_law_take .nil pass0 (pa_cons (pv 0) (pa_cons pe_int pa_nil))) pe_int (nomark _)))
        (pss_cons (ps_if (pt_cmpR op_gt (pv 9) (pv 1) (nomark _)) (pss_one ps_break) pss_nil)
        (pss_cons (ps_if (PW.pt (pw_and (pt_cmpR op_gt (pe_callB call_lenU (by rfl) T.n_len (by decide +kernel) (pa_cons (pv 5) pa_nil)) pe_int (nomark _)) (pw_and (pt_cmpR (op_eqU hr.units) (pv 9) (pv 6) (nomark _)) (pw_and1 (PW.pt (pw_or (pt_val (pv 7)) (pw_or1 (pt_cmpR (op_eqU hr.units) (pv 9) (pv 10) (nomark _))))))))) (pss_one ps_continue) pss_nil)
        (Evl.pss_cut (ps_if (pt_val (pv 11)) (pss_one (ps_expr (pe_bm PySem.F.plainAttrs_list PySem.F.slot_list_append PySem.F.type_list_append mt_append (pv 5) (pa_cons (pe_tup (pa_cons (pv 10) (pa_cons (pv 9) pa_nil))) pa_nil)))) (pss_one (ps_expr (pe_bm PySem.F.plainAttrs_list PySem.F.slot_list_append PySem.F.type_list_append mt_append (pv 5) (pa_cons (pe_tup (pa_cons (pv 9) (pa_cons (pv 10) pa_nil))) pa_nil)))))
        (pss_cons (ps_set (i := 6) sc_law_picks.nd rfl (Or.inl rfl) (pv 10))
        (pss_one (ps_set (i := 7) sc_law_picks.nd rfl (Or.inl rfl) (pe_cmpR (op_eqU hr.units) (pv 9) (pv 10) (nomark _))))))))))))
        (pss_one (ps_ret (pe_callTy call_tupU (by rfl) T.n_tuple (by decide +kernel) (pa_cons (pv 5) pa_nil)))))))), ?_⟩
    walk_at "rd"
    refine r_small nsz fun L hL => ?_
    have hLn := (flow ML f p).fresh hB hL
    have DL : Drw (flow ML f p) H (upd H L (.lst [])) := (Drw.refl hB).new hL
    walk_at "rd"
    refine l_R (by omega) (by omega) (fun i σ H' => ∃ (spot : Nat) (c : Bool) (y8 y9 y10 y11 : Option V) (xs : List V) (T' : List Iv), σ = [some (.ref f), some (.int (n : Nat)), some (.int (m : Nat)), some (.ref g), some (.ref sz), some (.ref L), some (.int (spot : Nat)), some (.bl c), y8, y9, y10, y11] ∧ Drw (flow ML f p) H H' ∧ H' L = some (.lst xs) ∧ PrL H' xs T' ∧ Ord n T' ∧ T'.length ≤ i ∧ Last T' spot c) ⟨0, false, none, none, none, none, [], [], rfl, DL, upd_same, .nil, ⟨(fun _ h => nomatch h), List.Pairwise.nil⟩, Nat.le_refl _, .inl ⟨rfl, rfl, rfl⟩⟩ (fun i σ H' hi' hP => ?_) (fun σ H' hP => ?_)
    · obtain ⟨spot, c, y8, y9, y10, y11, xs, T', rfl, D, gL, hx, ho, tl, la⟩ := hP
      have him : i < m := by omega
      walk_at "rd"
      refine ⟨f, p, 6, rfl, D.st, by decide, by decide, fun v1 H1 hv1 D1 => ?_⟩
      have DD1 := D.trans D1
      obtain ⟨x1, hx1⟩ := six_at gl g0 hv1
      refine r_ixL (sqL (DD1.at nag hg)) (atI_nat hx1) ?_
      walk_at "rd"
      refine ⟨f, p, 6, rfl, D1.st, by decide, by decide, fun v2 H2 hv2 D2 => ?_⟩
      have DD2 := DD1.trans D2
      obtain ⟨x2, hx2⟩ := six_at sl s0 hv2
      refine r_ixL (sqL (DD2.at nas hs)) (atI_nat hx2) ?_
      walk_at "rd"
      refine ⟨f, p, 3, rfl, D2.st, by decide, by decide, fun v3 H3 hv3 D3 => ?_⟩
      have DD3 := DD2.trans D3
      have D13 := (D1.trans D2).trans D3
      have gL3 := D13.at hLn gL
      have hx3 : PrL H3 xs T' := hx.imp fun a b h => by
        obtain ⟨pa, rfl, hpa⟩ := h
        refine ⟨pa, rfl, D13.hh _ _ (fun z => ?_) hpa⟩
        obtain ⟨_, zz, kk, nn, q1, q2, _⟩ := D.st
        rcases z with z | z
        · rw [z, q1] at hpa; cases hpa
        · rw [z, q2] at hpa; cases hpa
      obtain ⟨low, hlow⟩ : ∃ low : Nat, low = spot + x1 := ⟨_, rfl⟩
      obtain ⟨high, hhigh⟩ : ∃ high : Int, high = min (n : Int) ((low : Nat) + (x2 : Nat)) := ⟨_, rfl⟩
      have e1 : ((spot : Nat) : Int) + (x1 : Nat) = (low : Nat) := by omega
      rw [e1, ← hhigh]
      walk_at "rd"
      refine r_ite (fun c1 => ?_) (fun c1 => ?_)
      · walk_at "rd"
        refine r_tupLV gL3 hx3 fun p2 H5 hp2 e5 hv5 => ?_
        exact q _ T' H5 (DD3.then e5) hv5 ho (by omega)
      · have hl1 : (low : Int) ≤ high := by omega
        have hl2 : high ≤ n := by omega
        obtain ⟨hn, hhn⟩ := Int.eq_ofNat_of_zero_le (show (0 : Int) ≤ high by omega)
        have xl := hx.len
        have cont : ∀ (y8 y9 y10 y11 : Option V), ∃ (spot' : Nat) (c' : Bool) (z8 z9 z10 z11 : Option V) (xs' : List V) (T'' : List Iv), ([some (.ref f), some (.int (n : Nat)), some (.int (m : Nat)), some (.ref g), some (.ref sz), some (.ref L), some (.int (spot : Nat)), some (.bl c), y8, y9, y10, y11] : L2.St) = [some (.ref f), some (.int (n : Nat)), some (.int (m : Nat)), some (.ref g), some (.ref sz), some (.ref L), some (.int (spot' : Nat)), some (.bl c'), z8, z9, z10, z11] ∧ Drw (flow ML f p) H H3 ∧ H3 L = some (.lst xs') ∧ PrL H3 xs' T'' ∧ Ord n T'' ∧ T''.length ≤ i + 1 ∧ Last T'' spot' c' := fun y8 y9 y10 y11 => ⟨spot, c, y8, y9, y10, y11, xs, T', rfl, DD3, gL3, hx3, ho, by omega, la⟩
        have goon : ¬ (0 < T'.length ∧ (low : Int) = spot ∧ (c = true ∨ (low : Int) = high)) → ∀ (a : Iv), Q46.lo a = low → hi a = high → ∀ (p3 : Addr), H3 p3 = none → ∀ (y8 y9 y10 y11 : Option V), ∃ (spot' : Nat) (c' : Bool) (z8 z9 z10 z11 : Option V) (xs' : List V) (T'' : List Iv), ([some (.ref f), some (.int (n : Nat)), some (.int (m : Nat)), some (.ref g), some (.ref sz), some (.ref L), some (.int high), some (.bl (decide (V.int (low : Nat) = V.int high))), y8, y9, y10, y11] : L2.St) = [some (.ref f), some (.int (n : Nat)), some (.int (m : Nat)), some (.ref g), some (.ref sz), some (.ref L), some (.int (spot' : Nat)), some (.bl c'), z8, z9, z10, z11] ∧ Drw (flow ML f p) H (upd (upd H3 p3 (.tup [.int a.1, .int a.2])) L (.lst (xs ++ [.ref p3]))) ∧ (upd (upd H3 p3 (.tup [.int a.1, .int a.2])) L (.lst (xs ++ [.ref p3]))) L = some (.lst xs') ∧ PrL (upd (upd H3 p3 (.tup [.int a.1, .int a.2])) L (.lst (xs ++ [.ref p3]))) xs' T'' ∧ Ord n T'' ∧ T''.length ≤ i + 1 ∧ Last T'' spot' c' := fun no a ea eb p3 hp3 y8 y9 y10 y11 => by
          obtain ⟨H4, k4, e4, h4⟩ := newPr hp3 a.1 a.2
          rw [← k4]
          have tk : Tk H4 (upd H4 L (.lst (xs ++ [.ref p3]))) := .put (e4 _ _ gL3)
          have hLH : H L = none := hL
          refine ⟨hn, decide (Q46.lo a = hi a), y8, y9, y10, y11, _, T' ++ [a], ?_, (DD3.then e4).put hLH hLn, upd_same, (prl_imm (.trans (.ex e4) tk) hx3).snoc (imm tk h4), ord_snoc ho la (by omega) hl1 hl2 (by omega) no ea eb, by rw [List.length_append]; simp; omega, .inr ⟨T', a, rfl, ?_, rfl⟩⟩
          · have e9 : decide (V.int (low : Nat) = V.int high) = decide (Q46.lo a = hi a) := by
              rw [ea, eb, Bool.eq_iff_iff, decide_eq_true_iff, decide_eq_true_iff]
              exact ⟨fun z => V.int.inj z, fun z => by rw [z]⟩
            rw [e9, hhn]
          · omega
        with_reducible refine r_next ?_
        with_reducible refine r_seq ?_
        with_reducible refine r_ifS ?_
        refine any_test (S := fun b H' => H' = H3 ∧ (b = true ↔ (0 < T'.length ∧ (low : Int) = spot ∧ (c = true ∨ (low : Int) = high)))) (fun QB k => ?_) (fun b H' hb => ?_)
        · walk_at "rd"
          refine r_lenL (sqL gL3) ?_
          walk_at "rd"
          refine r_ite (fun a1 => ?_) (fun a1 => ?_)
          · walk_at "rd"
            refine r_ite (fun a2 => ?_) (fun a2 => ?_)
            · have a2 := V.int.inj a2
              cases c with
              | true =>
                walk_at "rd"
                exact k true H3 ⟨rfl, fun _ => ⟨by omega, a2, .inl rfl⟩, fun _ => rfl⟩
              | false =>
                walk_at "rd"
                refine k _ H3 ⟨rfl, ?_⟩
                rw [decide_eq_true_iff]
                exact ⟨fun z => ⟨by omega, a2, .inr (V.int.inj z)⟩, fun z => by rw [z.2.2.resolve_left (fun g => nomatch g)]⟩
            · exact k false H3 ⟨rfl, (fun z => nomatch z), fun z => absurd (by rw [z.2.1]) a2⟩
          · exact k false H3 ⟨rfl, (fun z => nomatch z), fun z => absurd (show (0 : Int) < (xs.length : Nat) by omega) a1⟩
        · obtain ⟨rfl, hb⟩ := hb
          cases b with
          | true =>
            walk_at "rd"
            exact cont _ _ _ _
          | false =>
            have no : ¬ (0 < T'.length ∧ (low : Int) = spot ∧ (c = true ∨ (low : Int) = high)) := fun z => nomatch hb.mpr z
            have al : xs.length < sizeLine := Nat.lt_of_le_of_lt (show xs.length ≤ 1000 by omega) (by decide)
            have ap : ∀ (p3 : Addr) (o : HO), H' p3 = none → (upd H' p3 o) L = some (.lst xs) := fun p3 o h => (Same.new (Same.refl _) h : Ex H' _) _ _ gL3
            walk_at "rd"
            refine ⟨fun σ H4 => ∃ (a : Iv) (p3 : Addr) (yt : Option V), Q46.lo a = low ∧ hi a = high ∧ H' p3 = none ∧ σ = [some (.ref f), some (.int (n : Nat)), some (.int (m : Nat)), some (.ref g), some (.ref sz), some (.ref L), some (.int (spot : Nat)), some (.bl c), some (.int (i : Nat)), some (.int (low : Nat)), some (.int high), yt] ∧ H4 = upd (upd H' p3 (.tup [.int a.1, .int a.2])) L (.lst (xs ++ [.ref p3])), ?_, ?_⟩
            · walk_at "rd"
              refine r_iteB (fun c3 => ?_) (fun c3 => ?_)
              · walk_at "rd"
                refine r_tyL (sqL gL3) ?_
                walk_at "rd"
                refine r_small nsz fun p3 hp3 => ?_
                walk_at "rd"
                refine r_app (ap p3 _ hp3) al ?_
                walk_at "rd"
                exact ⟨(high, low), p3, _, by show min high (low : Int) = low; omega, by show max high (low : Int) = high; omega, hp3, rfl, rfl⟩
              · walk_at "rd"
                refine r_tyL (sqL gL3) ?_
                walk_at "rd"
                refine r_small nsz fun p3 hp3 => ?_
                walk_at "rd"
                refine r_app (ap p3 _ hp3) al ?_
                walk_at "rd"
                exact ⟨(low, high), p3, _, by show min (low : Int) high = low; omega, by show max (low : Int) high = high; omega, hp3, rfl, rfl⟩
            · rintro σ H4 ⟨a, p3, yt, ea, eb, hp3, rfl, rfl⟩
              walk_at "rd"
              exact goon no a ea eb p3 hp3 _ _ _ _
    · obtain ⟨spot, c, y8, y9, y10, y11, xs, T', rfl, D, gL, hx, ho, tl, la⟩ := hP
      walk_at "rd"
      refine r_tupLV gL hx fun p2 H2 hp2 e2 hv => ?_
      exact q _ T' H2 (D.then e2) hv ho (by simpa using tl)
end
end K46

namespace K46
open PySem PySem.Spec PyProof.Rows L2 Dk Q46
/-- one step of a reading -/
local macro_rules | `(tactic| walk_at "rd1") => `(tactic| first
  | ((with_reducible refine r_var (v := ?rv) ?rh ?_); (case rh => rfl))
  | with_reducible refine r_c ?_
  | with_reducible refine r_seq ?_
  | with_reducible refine r_asg ?_
  | with_reducible refine r_par ?_
  | with_reducible refine r_gname ?_
  | with_reducible refine r_op ?_
  | with_reducible refine r_forLo ?_
  | with_reducible refine r_forTo ?_
  | with_reducible refine r_forSo ?_
  | with_reducible refine r_forRo ?_
  | with_reducible refine r_forRvo ?_
  | with_reducible refine r_forZo ?_
  | with_reducible refine r_revS ?_
  | with_reducible refine r_lcRo ?_
  | with_reducible refine r_lcLo ?_
  | with_reducible refine r_yes ?_
  | with_reducible refine r_callK0 ?_
  | with_reducible refine r_break ?_
  | with_reducible refine r_continue ?_
  | with_reducible refine r_forR2o ?_
  | with_reducible refine r_forEo ?_
  | with_reducible refine r_forESo ?_
  | with_reducible refine r_xfo ?_
  | with_reducible refine r_noP ?_
  | with_reducible refine r_part ?_
  | with_reducible refine r_pI ?_
  | with_reducible refine r_gcons ?_
  | with_reducible refine r_gnil ?_
  | with_reducible refine r_mkO ?_
  | with_reducible refine r_un ?_
  | with_reducible refine r_addI ?_
  | with_reducible refine r_I0 ?_
  | with_reducible refine r_U ?_
  | with_reducible refine r_cons ?_
  | with_reducible refine r_nil ?_
  | with_reducible refine r_CB ?_
  | with_reducible refine r_call ?_
  | with_reducible refine r_callS ?_
  | with_reducible refine r_int ?_
  | with_reducible refine r_max ?_
  | with_reducible refine r_min ?_
  | with_reducible refine r_test ?_
  | with_reducible refine r_B ?_
  | with_reducible refine r_blv ?_
  | with_reducible refine r_and ?_
  | with_reducible refine r_or ?_
  | with_reducible refine r_not ?_
  | with_reducible refine r_andV ?_
  | with_reducible refine r_orV ?_
  | with_reducible refine r_notV ?_
  | with_reducible refine r_ifE ?_
  | with_reducible refine r_ifS ?_
  | with_reducible refine r_ret ?_
  | with_reducible refine r_retN ?_
  | with_reducible refine r_drop ?_
  | with_reducible refine r_next ?_
  | with_reducible refine r_sl ?_
  | with_reducible refine r_gsub ?_
  | with_reducible refine r_bm ?_
  | with_reducible refine r_bm0 ?_
  | with_reducible refine r_tup ?_
  | with_reducible refine r_lst ?_
  | with_reducible refine r_isN ?_
  | with_reducible refine r_notN ?_
  | with_reducible refine r_chain ?_
  | with_reducible refine r_callK ?_
  | with_reducible refine r_isB ?_
  | with_reducible refine r_lcEio ?_
  | with_reducible refine r_forEi ?_
  | with_reducible refine r_lcTo ?_
  | with_reducible refine r_lcSo ?_
  | with_reducible refine r_m1 ?_
  | with_reducible refine r_dget ?_
  | with_reducible refine r_din ?_
  | with_reducible refine r_dnotin ?_
  | with_reducible refine r_starC ?_
  | with_reducible refine r_callKS ?_
  | with_reducible refine r_itt ?_
  | with_reducible refine r_iff ?_
  | with_reducible refine r_ittN ?_
  | with_reducible refine r_iffN ?_
  | ((with_reducible refine r_ittD ?rh ?_); (case rh => rfl))
  | ((with_reducible refine r_iffD ?rh ?_); (case rh => rfl))
  | ((with_reducible refine r_modP ?rh ?_); (case rh => decide))
  | ((with_reducible refine r_eq ?rh ?_); (case rh => rfl))
  | ((with_reducible refine r_eqP ?rh ?_); (case rh => rfl))
  | ((with_reducible refine r_ne ?rh ?_); (case rh => rfl)))
local macro_rules | `(tactic| walk_at "rd") => `(tactic| repeat walk_at "rd1")
local macro_rules | `(tactic| walk_at "isi") => `(tactic| first | refine r_isi (b := true) (by assumption) (by decide +kernel) ?_ | refine r_isi (b := false) (by assumption) (by decide +kernel) ?_)
local macro_rules | `(tactic| walk_at "rs1") => `(tactic| first
  | with_reducible refine r_seq ?_
  | with_reducible refine r_asg ?_
  | with_reducible refine r_gname ?_
  | with_reducible refine r_ret ?_)
local macro_rules | `(tactic| walk_at "rs") => `(tactic| repeat walk_at "rs1")

/-- what the law reckons: splices, carets, the text -/
def DueV (H : Hp) (v : V) (S : List Sp3) (C : List Int) (o : Str) : Prop := ∃ (p a b : Addr) (sa : List V), v = .ref p ∧ H p = some (.lst [.ref a, .ref b, .str o]) ∧ H a = some (.lst sa) ∧ P2 (TrS H) sa S ∧ H b = some (.lst (C.map V.int))
theorem DueV.up {H H' : Hp} {v : V} {S : List Sp3} {C : List Int} {o : Str} (e : Ex H H') (h : DueV H v S C o) : DueV H' v S C o := by
  obtain ⟨p, a, b, sa, h1, h2, h3, h4, h5⟩ := h
  exact ⟨p, a, b, sa, h1, e _ _ h2, e _ _ h3, p2_imm (.ex e) h4, e _ _ h5⟩
def spPutL (K : PySem.W.Frag) : Sp := fun vs H Q _ => ∃ (z : Str) (v : V) (T : List Iv) (t : Str), vs = [.str z, v, .str t] ∧ TupV K PrV H v T ∧ T.length ≤ 200 ∧ Ord z.length T ∧ z.length ≤ 500 ∧ t.length ≤ 10 ∧
  ∀ u H' C o, Ex H H' → SS (cars t.length T) C → cs o = spl (cs z) 0 ((spls (decide (t ≠ "")) t T).map s3) → DueV H' u (spls (decide (t ≠ "")) t T) C o → Q u H'
theorem spls_map {q : Bool} {t : Str} {T : List Iv} : (spls q t T).map s3 = spls q (cs t) T := by
  induction T with
  | nil => rfl
  | cons a T ih =>
    unfold spls at ih ⊢
    rw [List.filterMap_cons, List.filterMap_cons]
    cases decide (Q46.lo a < hi a) || q with
    | true => show s3 _ :: _ = _ :: _; rw [ih]; rfl
    | false => exact ih
def endOf (T : List Iv) : Int := (T.getLast?.map hi).getD 0
theorem endOf_snoc {T : List Iv} {a : Iv} : endOf (T ++ [a]) = hi a := by unfold endOf; rw [List.getLast?_concat]; rfl
theorem endOf_le {N : Int} {T : List Iv} (h : Ord N T) {i : Nat} {a : Iv} (ha : T[i]? = some a) : 0 ≤ endOf (T.take i) ∧ endOf (T.take i) ≤ Q46.lo a := by
  cases i with
  | zero => exact ⟨Int.le_refl 0, (h.pos a (List.mem_of_getElem? ha)).1⟩
  | succ i =>
    have il : i < T.length := by have := (List.getElem?_eq_some_iff.mp ha).1; omega
    have e : T.take (i + 1) = T.take i ++ [T[i]] := by rw [List.take_add_one, List.getElem?_eq_getElem il]; rfl
    rw [e, endOf_snoc]
    obtain ⟨ia, ea⟩ := List.getElem?_eq_some_iff.mp ha
    have := List.pairwise_iff_getElem.mp h.le i (i + 1) il ia (by omega)
    rw [ea] at this
    have := (h.pos T[i] (List.getElem_mem il)).1
    have := lo_hi T[i]
    omega
section
variable {P : Program} {w : World} {K : PySem.W.Frag} {mg : Str → Option Value} {base : Heap}
theorem ok_law_put (T : Txt K mg) : FnOk P w K mg base CX0 1 T.a_law_put T.d_law_put ["_law_body", "_law_given", "_law_put_here"] (spPutL K) := by
  refine T.F_law_put.ok sc_law_put (fun vs H Q E h => ?_) (fun cdv A outer s H vs Q E hr h => ?_)
  · obtain ⟨z, v, Ts, t, rfl, _⟩ := h
    rfl
  · obtain ⟨z, v, Ts, t, rfl, ⟨p, xs, rfl, hp, hx⟩, hl, ho, hz, ht, q⟩ := h
    refine ⟨_, (pss_cons (ps_set (i := 3) sc_law_put.nd rfl (Or.inl rfl) (pe_lst pa_nil))
        (pss_cons (ps_set (i := 4) sc_law_put.nd rfl (Or.inl rfl) (pe_lst pa_nil))
        (pss_cons (ps_set (i := 5) sc_law_put.nd rfl (Or.inl rfl) (pe_lst pa_nil))
        (pss_cons (ps_set (i := 6) sc_law_put.nd rfl (Or.inl rfl) pe_int)
        (pss_cons (ps_set (i := 7) sc_law_put.nd rfl (Or.inl rfl) pe_int)
        (pss_cons (ps_for PassesOwn.never rfl (pi_tup (pv 1)) (pg_name (i := 8) sc_law_put.nd rfl (Or.inl rfl)) (pss_cons (ps_set (i := 9) sc_law_put.nd rfl (Or.inl rfl) (pe_callB (call_minP rfl hr.units65) (by rfl) T.n_min (by decide +kernel) (pa_cons (pv 8) pa_nil)))
        (pss_cons (ps_set (i := 10) sc_law_put.nd rfl (Or.inl rfl) (pe_callB (call_maxP rfl hr.units65) (by rfl) T.n_max (by decide +kernel) (pa_cons (pv 8) pa_nil)))
        (pss_cons (ps_expr (pe_bm PySem.F.plainAttrs_list PySem.F.slot_list_append PySem.F.type_list_append mt_append (pv 3) (pa_cons (pe_slice sl_U (pv 0) (po_some (pv 6)) (po_some (pv 9))) pa_nil)))
        (pss_cons (ps_expr (pe_bm PySem.F.plainAttrs_list PySem.F.slot_list_append PySem.F.type_list_append mt_append (pv 3) (pa_cons (pv 2) pa_nil)))
        (pss_cons (ps_set (i := 7) sc_law_put.nd rfl (Or.inl rfl) (pe_op op_addU (pe_op op_sub (pe_op op_addU (pv 7) (pv 9)) (pv 6)) (pe_callB call_lenU (by rfl) T.n_len (by decide +kernel) (pa_cons (pv 2) pa_nil))))
        (pss_cons (ps_expr (pe_bm PySem.F.plainAttrs_list PySem.F.slot_list_append PySem.F.type_list_append mt_append (pv 5) (pa_cons (pv 7) pa_nil)))
        (Evl.pss_cut (ps_if (PW.pt (pw_or (pt_cmpR op_gt (pv 10) (pv 9) (nomark _)) (pw_or1 (pt_cmpR op_gt (pe_callB call_lenU (by rfl) T.n_len (by decide +kernel) (pa_cons (pv 2) pa_nil)) pe_int (nomark _))))) (pss_one (ps_expr (pe_bm PySem.F.plainAttrs_list PySem.F.slot_list_append PySem.F.type_list_append mt_append (pv 4) (pa_cons (pe_tup (pa_cons (pv 9) (pa_cons (pe_op op_sub (pv 10) (pv 9)) (pa_cons (pv 2) pa_nil)))) pa_nil)))) pss_nil)
        (pss_one (ps_set (i := 6) sc_law_put.nd rfl (Or.inl rfl) (pv 10)))))))))))
        (pss_cons (ps_expr (pe_bm PySem.F.plainAttrs_list PySem.F.slot_list_append PySem.F.type_list_append mt_append (pv 3) (pa_cons (pe_slice sl_U (pv 0) (po_some (pv 6)) po_none) pa_nil)))
        (pss_one (ps_ret (pe_lst (pa_cons (pv 4) (pa_cons (pe_callB (Sx.cr_sortSU rfl) (by rfl) T.n_sorted (by decide +kernel) (pa_cons (pe_callTy (Sx.cr_setL rfl) (by rfl) T.n_set (by decide +kernel) (pa_cons (pv 5) pa_nil)) pa_nil)) (pa_cons (pe_join pe_str (pv 3)) pa_nil))))))))))))), ?_⟩
    have zl : z.length ≤ sizeLine := by rw [sizeLine_eq]; omega
    have tl : t.length ≤ sizeLine := by rw [sizeLine_eq]; omega
    have xl := hx.len
    walk_at "rd"
    refine r_small nsz fun L hL => ?_
    obtain ⟨H1, k1, e1, h1⟩ := new1 hL (.lst [])
    rw [← k1]
    walk_at "rd"
    refine r_small nsz fun S hS => ?_
    obtain ⟨H2, k2, e2, h2⟩ := new1 hS (.lst [])
    rw [← k2]
    walk_at "rd"
    refine r_small nsz fun C hC => ?_
    obtain ⟨H3, k3, e3, h3⟩ := new1 hC (.lst [])
    rw [← k3]
    have neLS : L ≠ S := fun z => by rw [← z, h1] at hS; cases hS
    have neLC : L ≠ C := fun z => by rw [← z, e2 _ _ h1] at hC; cases hC
    have neSC : S ≠ C := fun z => by rw [← z, h2] at hC; cases hC
    have hSH : H S = none := e1.free hS
    have hCH : H C = none := (e1.trans e2).free hC
    have e03 := (e1.trans e2).trans e3
    walk_at "rd"
    refine l_T (hp.up e03).sq (fun i σ H' => ∃ (d : Int) (y8 y9 y10 : Option V) (ps : List Str) (ss : List V), d = endOf (Ts.take i) ∧ σ = [some (.str z), some (.ref p), some (.str t), some (.ref L), some (.ref S), some (.ref C), some (.int d), some (.int (d + shf t.length (Ts.take i))), y8, y9, y10] ∧ Ex H H' ∧ H' L = some (.lst (ps.map V.str)) ∧ H' S = some (.lst ss) ∧ P2 (TrS H') ss (spls (decide (t ≠ "")) t (Ts.take i)) ∧ H' C = some (.lst ((cars t.length (Ts.take i)).map V.int)) ∧
        (ps.map cs).flatten ++ ptx (z := cs z) (cs t) d (Ts.drop i) = ptx (z := cs z) (cs t) 0 Ts ∧ (∀ x ∈ ps, x.length ≤ 1000) ∧ ps.length ≤ 2 * i)
      ⟨0, none, none, none, [], [], rfl, rfl, e03, (e2.trans e3) _ _ h1, e3 _ _ h2, .nil, h3, rfl, (fun x h => nomatch h), Nat.le_refl _⟩ (fun i σ H' h => ?_) (fun i x σ H' hx' hP => ?_) (fun σ H' hP => ?_)
    · obtain ⟨_, _, _, _, _, _, _, _, e, _⟩ := h
      exact (hp.up e).sq
    · obtain ⟨d, y8, y9, y10, ps, ss, hd, rfl, e, gL, gS, hss, gC, hpt, hps, pl⟩ := hP
      obtain ⟨a, ha, hv⟩ := hx.get hx'
      have il : i < Ts.length := (List.getElem?_eq_some_iff.mp ha).1
      have tk1 : Ts.take (i + 1) = Ts.take i ++ [a] := by rw [List.take_add_one, ha]; rfl
      obtain ⟨d0, d1⟩ := endOf_le ho ha
      rw [← hd] at d0 d1
      have la := lo_hi a
      have hva := imm (.ex e) hv
      have hdr : Ts.drop i = a :: Ts.drop (i + 1) := by
        obtain ⟨hi', e'⟩ := List.getElem?_eq_some_iff.mp ha
        rw [List.drop_eq_getElem_cons hi', e']
      have sl : ss.length ≤ 1000 := by
        rw [hss.len]
        refine Nat.le_trans (List.length_filterMap_le _ _) ?_
        rw [List.length_take]
        omega
      walk_at "rd"
      refine r_minP hva ?_
      walk_at "rd"
      refine r_maxP hva ?_
      walk_at "rd"
      refine r_tyL (sqL gL) ?_
      obtain ⟨dn, hdn⟩ := Int.eq_ofNat_of_zero_le d0
      obtain ⟨an, han⟩ := Int.eq_ofNat_of_zero_le (show 0 ≤ Q46.lo a by omega)
      have han' : min a.1 a.2 = (an : Int) := han
      have hhi : max a.1 a.2 = hi a := rfl
      rw [hdn, han', hhi]
      walk_at "rd"
      refine r_slS zl ?_
      walk_at "rd"
      refine r_app gL (by rw [List.length_map]; exact Nat.lt_of_le_of_lt (show ps.length ≤ 3000 by omega) (by decide)) ?_
      walk_at "rd"
      refine r_tyL (sqL upd_same) ?_
      walk_at "rd"
      refine r_app upd_same (by rw [List.length_append, List.length_map]; exact Nat.lt_of_le_of_lt (show ps.length + 1 ≤ 3000 by omega) (by decide)) ?_
      walk_at "rd"
      obtain ⟨H5, k5⟩ : ∃ H5, H5 = upd (upd H' L (.lst (ps.map V.str ++ [.str (cutS z (some (dn : Int)) (some (an : Int)))]))) L (.lst (ps.map V.str ++ [.str (cutS z (some (dn : Int)) (some (an : Int)))] ++ [.str t])) := ⟨_, rfl⟩
      rw [← k5]
      have e5 : Ex H H5 := by rw [k5]; exact Same.mut (Same.mut e hL) hL
      have g5L : H5 L = some (.lst ((ps ++ [cutS z (some (dn : Int)) (some (an : Int))] ++ [t]).map V.str)) := by rw [k5, upd_same, List.map_append, List.map_append]; rfl
      have g5S : H5 S = some (.lst ss) := by rw [k5, upd_ne (Ne.symm neLS), upd_ne (Ne.symm neLS)]; exact gS
      have g5C : H5 C = some (.lst ((cars t.length (Ts.take i)).map V.int)) := by rw [k5, upd_ne (Ne.symm neLC), upd_ne (Ne.symm neLC)]; exact gC
      have tk5 : Tk H' H5 := by rw [k5]; exact (Tk.put gL).trans (.put upd_same)
      refine r_lenS tl ?_
      walk_at "rd"
      refine r_tyL (sqL g5C) ?_
      walk_at "rd"
      refine r_app g5C (by rw [List.length_map]; exact Nat.lt_of_le_of_lt (show _ ≤ 1000 by unfold cars; rw [List.length_map, List.length_range, List.length_take]; omega) (by decide)) ?_
      have es : (dn : Int) + shf t.length (Ts.take i) + (an : Int) - (dn : Int) + (t.length : Nat) = hi a + shf t.length (Ts.take (i + 1)) := by
        rw [tk1, shf_snoc]
        have : Q46.lo a = (an : Int) := han
        omega
      rw [es]
      obtain ⟨H6, k6⟩ : ∃ H6, H6 = upd H5 C (.lst ((cars t.length (Ts.take i)).map V.int ++ [.int (hi a + shf t.length (Ts.take (i + 1)))])) := ⟨_, rfl⟩
      rw [← k6]
      have e6 : Ex H H6 := by rw [k6]; exact Same.mut e5 hCH
      have g6L : H6 L = some (.lst ((ps ++ [cutS z (some (dn : Int)) (some (an : Int))] ++ [t]).map V.str)) := by rw [k6, upd_ne neLC]; exact g5L
      have g6S : H6 S = some (.lst ss) := by rw [k6, upd_ne neSC]; exact g5S
      have g6C : H6 C = some (.lst ((cars t.length (Ts.take (i + 1))).map V.int)) := by
        rw [k6, upd_same, tk1, cars_snoc, List.map_append]
        rfl
      have tk6 : Tk H' H6 := by rw [k6]; exact tk5.trans (.put g5C)
      walk_at "rd"
      refine ⟨fun σ H7 => ∃ ss', σ = [some (.str z), some (.ref p), some (.str t), some (.ref L), some (.ref S), some (.ref C), some (.int dn), some (.int (hi a + shf t.length (Ts.take (i + 1)))), some x, some (.int (an : Nat)), some (.int (hi a))] ∧ Ex H H7 ∧ H7 L = some (.lst ((ps ++ [cutS z (some (dn : Int)) (some (an : Int))] ++ [t]).map V.str)) ∧ H7 S = some (.lst ss') ∧ P2 (TrS H7) ss' (spls (decide (t ≠ "")) t (Ts.take (i + 1))) ∧ H7 C = some (.lst ((cars t.length (Ts.take (i + 1))).map V.int)), ?_, ?_⟩
      · have yes : (decide (Q46.lo a < hi a) || decide (t ≠ "")) = true → ∀ p3, H6 p3 = none → ∃ ss', ([some (.str z), some (.ref p), some (.str t), some (.ref L), some (.ref S), some (.ref C), some (.int dn), some (.int (hi a + shf t.length (Ts.take (i + 1)))), some x, some (.int (an : Nat)), some (.int (hi a))] : L2.St) = [some (.str z), some (.ref p), some (.str t), some (.ref L), some (.ref S), some (.ref C), some (.int dn), some (.int (hi a + shf t.length (Ts.take (i + 1)))), some x, some (.int (an : Nat)), some (.int (hi a))] ∧ Ex H (upd (upd H6 p3 (.tup [.int (an : Nat), .int (hi a - (an : Nat)), .str t])) S (.lst (ss ++ [.ref p3]))) ∧ (upd (upd H6 p3 (.tup [.int (an : Nat), .int (hi a - (an : Nat)), .str t])) S (.lst (ss ++ [.ref p3]))) L = some (.lst ((ps ++ [cutS z (some (dn : Int)) (some (an : Int))] ++ [t]).map V.str)) ∧ (upd (upd H6 p3 (.tup [.int (an : Nat), .int (hi a - (an : Nat)), .str t])) S (.lst (ss ++ [.ref p3]))) S = some (.lst ss') ∧ P2 (TrS (upd (upd H6 p3 (.tup [.int (an : Nat), .int (hi a - (an : Nat)), .str t])) S (.lst (ss ++ [.ref p3])))) ss' (spls (decide (t ≠ "")) t (Ts.take (i + 1))) ∧ (upd (upd H6 p3 (.tup [.int (an : Nat), .int (hi a - (an : Nat)), .str t])) S (.lst (ss ++ [.ref p3]))) C = some (.lst ((cars t.length (Ts.take (i + 1))).map V.int)) := fun c p3 hp3 => by
          obtain ⟨H7, k7, e7, h7⟩ := new1 hp3 (.tup [.int (an : Nat), .int (hi a - (an : Nat)), .str t])
          rw [← k7]
          have tk : Tk H7 (upd H7 S (.lst (ss ++ [.ref p3]))) := .put (e7 _ _ g6S)
          refine ⟨ss ++ [.ref p3], rfl, Same.mut (e6.trans e7) hSH, by rw [upd_ne neLS]; exact e7 _ _ g6L, upd_same, ?_, by rw [upd_ne (Ne.symm neSC)]; exact e7 _ _ g6C⟩
          rw [tk1, spls_snoc, if_pos c]
          refine (p2_imm (.trans (tk6.trans (.ex e7)) tk) hss).snoc (imm tk ⟨p3, rfl, ?_⟩)
          rw [show Q46.lo a = (an : Int) from han]
          exact h7
        have ap : ∀ (p3 : Addr) (o : HO), H6 p3 = none → (upd H6 p3 o) S = some (.lst ss) := fun p3 o h => (Same.new (Same.refl _) h : Ex H6 _) _ _ g6S
        walk_at "rd"
        refine r_ite (fun c => ?_) (fun c => ?_)
        · walk_at "rd"
          refine r_tyL (sqL g6S) ?_
          walk_at "rd"
          refine r_small nsz fun p3 hp3 => ?_
          walk_at "rd"
          refine r_app (ap p3 _ hp3) (Nat.lt_of_le_of_lt sl (by decide)) ?_
          walk_at "rd"
          exact yes (by rw [show Q46.lo a = (an : Int) from han, decide_eq_true c]; rfl) p3 hp3
        · walk_at "rd"
          refine r_lenS tl ?_
          walk_at "rd"
          have tz : (t = "") ↔ ¬ (0 : Int) < (t.length : Nat) := by
            constructor
            · intro g
              rw [g]
              decide
            · intro g
              refine PySem.W.str_of_cps ?_
              have h0 : (cs t).length = 0 := by rw [cs_len]; omega
              rw [show t.cps.toList = [] from List.length_eq_zero_iff.mp h0]
              rfl
          refine r_ite (fun c2 => ?_) (fun c2 => ?_)
          · walk_at "rd"
            refine r_tyL (sqL g6S) ?_
            walk_at "rd"
            refine r_small nsz fun p3 hp3 => ?_
            walk_at "rd"
            refine r_app (ap p3 _ hp3) (Nat.lt_of_le_of_lt sl (by decide)) ?_
            walk_at "rd"
            refine yes ?_ p3 hp3
            rw [Bool.or_eq_true]
            exact .inr (decide_eq_true fun z => tz.mp z c2)
          · walk_at "rd"
            refine ⟨ss, rfl, e6, g6L, g6S, ?_, g6C⟩
            rw [tk1, spls_snoc, if_neg (by rw [show Q46.lo a = (an : Int) from han, decide_eq_false c, tz.mpr c2]; decide), List.append_nil]
            exact p2_imm tk6 hss
      · rintro σ H7 ⟨ss', rfl, e7, g7L, g7S, hss7, g7C⟩
        walk_at "rd"
        refine ⟨hi a, _, _, _, _, ss', by rw [tk1, endOf_snoc], rfl, e7, g7L, g7S, hss7, g7C, ?_, fun x hx => ?_, by rw [List.length_append, List.length_append]; simp; omega⟩
        · rw [← hpt, hdr, List.map_append, List.map_append, List.flatten_append, List.flatten_append, List.map_singleton, List.map_singleton, List.flatten_singleton, List.flatten_singleton, cs_cut]
          show _ = _ ++ (stx (cs z) d (Q46.lo a) ++ cs t ++ ptx (z := cs z) (cs t) (hi a) (Ts.drop (i + 1)))
          have e9 : stx (cs z) d (Q46.lo a) = ((cs z).drop dn).take (an - dn) := by
            unfold stx
            rw [han, hdn]
            congr 1
            omega
          rw [e9]
          simp only [List.append_assoc]
        · rcases List.mem_append.mp hx with h | h
          · rcases List.mem_append.mp h with h | h
            · exact hps x h
            · rw [List.mem_singleton.mp h]
              exact Nat.le_trans (cut_len _ _ _) (by omega)
          · rw [List.mem_singleton.mp h]
            omega
    · obtain ⟨d, y8, y9, y10, ps, ss, hd, rfl, e, gL, gS, hss, gC, hpt, hps, pl⟩ := hP
      rw [xl, List.take_length] at hd hss gC
      rw [xl, List.drop_length] at hpt
      have d0 : 0 ≤ d := by
        rw [hd]
        unfold endOf
        cases h : Ts.getLast? with
        | none => exact Int.le_refl 0
        | some a =>
          have hm := List.mem_of_getLast? h
          have := (ho.pos a hm).1
          have := lo_hi a
          show 0 ≤ hi a
          omega
      obtain ⟨dn, hdn⟩ := Int.eq_ofNat_of_zero_le d0
      rw [hdn]
      walk_at "rd"
      refine r_tyL (sqL gL) ?_
      walk_at "rd"
      refine r_slS zl ?_
      walk_at "rd"
      refine r_app gL (by rw [List.length_map]; exact Nat.lt_of_le_of_lt (show ps.length ≤ 3000 by omega) (by decide)) ?_
      obtain ⟨H5, k5⟩ : ∃ H5, H5 = upd H' L (.lst (ps.map V.str ++ [.str (cutS z (some (dn : Int)) none)])) := ⟨_, rfl⟩
      rw [← k5]
      have e5 : Ex H H5 := by rw [k5]; exact Same.mut e hL
      have g5L : H5 L = some (.lst ((ps ++ [cutS z (some (dn : Int)) none]).map V.str)) := by rw [k5, upd_same, List.map_append]; rfl
      have g5S : H5 S = some (.lst ss) := by rw [k5, upd_ne (Ne.symm neLS)]; exact gS
      have g5C : H5 C = some (.lst ((cars t.length Ts).map V.int)) := by rw [k5, upd_ne (Ne.symm neLC)]; exact gC
      have tk5 : Tk H' H5 := by rw [k5]; exact Tk.put gL
      walk_at "rd"
      refine r_setSort (sqL g5C) (by unfold cars; rw [List.length_map, List.length_range]; omega) fun ns dd H6 e6 hpw hmem h6 => ?_
      walk_at "rd"
      refine ⟨⟨_, rfl⟩, ?_⟩
      walk_at "rd"
      refine ⟨"", L, _, rfl, rfl, .inl (sqL (e6 _ _ g5L)), ?_, ?_⟩
      · have hb := sum_bound (ps := ps ++ [cutS z (some (dn : Int)) none]) (b := 1000) fun x hx => by
          rcases List.mem_append.mp hx with h | h
          · exact hps x h
          · rw [List.mem_singleton.mp h]
            exact Nat.le_trans (cut_len _ _ _) (by omega)
        have h5 : ("" : Str).length = 0 := rfl
        rw [h5, Nat.mul_zero, Nat.add_zero]
        rw [List.length_append, List.length_singleton] at hb
        omega
      · walk_at "rd"
        refine r_small nsz fun p7 hp7 => ?_
        obtain ⟨H7, k7, e7, h7⟩ := new1 hp7 (.lst [.ref S, .ref dd, .str (Txt.join "" (ps ++ [cutS z (some (dn : Int)) none]))])
        rw [← k7]
        refine q _ _ ns _ (e5.trans (e6.trans e7)) ⟨hpw, hmem⟩ ?_ ⟨p7, S, dd, ss, rfl, h7, e7 _ _ (e6 _ _ g5S), p2_imm (tk5.trans (.ex (e6.trans e7))) hss, e7 _ _ h6⟩
        rw [cs_join, List.map_append, List.flatten_append, List.map_singleton, List.flatten_singleton, cs_from, spls_map, ← ptx_spl (N := z.length) (fun hq => ?_) (Int.le_refl 0) (fun a ha => (ho.pos a ha).1) ho.le, ← hpt, hdn]
        · rfl
        · rw [decide_eq_false_iff_not] at hq
          rw [Decidable.not_not.mp hq]
          rfl
end
end K46

namespace K46
open PySem PySem.Spec PyProof.Rows L2 Dk Q46
/-- one step of a reading -/
local macro_rules | `(tactic| walk_at "rd1") => `(tactic| first
  | ((with_reducible refine r_var (v := ?rv) ?rh ?_); (case rh => rfl))
  | with_reducible refine r_c ?_
  | with_reducible refine r_seq ?_
  | with_reducible refine r_asg ?_
  | with_reducible refine r_par ?_
  | with_reducible refine r_gname ?_
  | with_reducible refine r_op ?_
  | with_reducible refine r_forLo ?_
  | with_reducible refine r_forTo ?_
  | with_reducible refine r_forSo ?_
  | with_reducible refine r_forRo ?_
  | with_reducible refine r_forRvo ?_
  | with_reducible refine r_forZo ?_
  | with_reducible refine r_revS ?_
  | with_reducible refine r_lcRo ?_
  | with_reducible refine r_lcLo ?_
  | with_reducible refine r_yes ?_
  | with_reducible refine r_callK0 ?_
  | with_reducible refine r_break ?_
  | with_reducible refine r_continue ?_
  | with_reducible refine r_forR2o ?_
  | with_reducible refine r_forEo ?_
  | with_reducible refine r_forESo ?_
  | with_reducible refine r_xfo ?_
  | with_reducible refine r_noP ?_
  | with_reducible refine r_part ?_
  | with_reducible refine r_pI ?_
  | with_reducible refine r_gcons ?_
  | with_reducible refine r_gnil ?_
  | with_reducible refine r_mkO ?_
  | with_reducible refine r_un ?_
  | with_reducible refine r_addI ?_
  | with_reducible refine r_I0 ?_
  | with_reducible refine r_U ?_
  | with_reducible refine r_cons ?_
  | with_reducible refine r_nil ?_
  | with_reducible refine r_CB ?_
  | with_reducible refine r_call ?_
  | with_reducible refine r_callS ?_
  | with_reducible refine r_int ?_
  | with_reducible refine r_max ?_
  | with_reducible refine r_min ?_
  | with_reducible refine r_test ?_
  | with_reducible refine r_B ?_
  | with_reducible refine r_blv ?_
  | with_reducible refine r_and ?_
  | with_reducible refine r_or ?_
  | with_reducible refine r_not ?_
  | with_reducible refine r_andV ?_
  | with_reducible refine r_orV ?_
  | with_reducible refine r_notV ?_
  | with_reducible refine r_ifE ?_
  | with_reducible refine r_ifS ?_
  | with_reducible refine r_ret ?_
  | with_reducible refine r_retN ?_
  | with_reducible refine r_drop ?_
  | with_reducible refine r_next ?_
  | with_reducible refine r_sl ?_
  | with_reducible refine r_gsub ?_
  | with_reducible refine r_bm ?_
  | with_reducible refine r_bm0 ?_
  | with_reducible refine r_tup ?_
  | with_reducible refine r_lst ?_
  | with_reducible refine r_isN ?_
  | with_reducible refine r_notN ?_
  | with_reducible refine r_chain ?_
  | with_reducible refine r_callK ?_
  | with_reducible refine r_isB ?_
  | with_reducible refine r_lcEio ?_
  | with_reducible refine r_forEi ?_
  | with_reducible refine r_lcTo ?_
  | with_reducible refine r_lcSo ?_
  | with_reducible refine r_m1 ?_
  | with_reducible refine r_dget ?_
  | with_reducible refine r_din ?_
  | with_reducible refine r_dnotin ?_
  | with_reducible refine r_starC ?_
  | with_reducible refine r_callKS ?_
  | with_reducible refine r_itt ?_
  | with_reducible refine r_iff ?_
  | with_reducible refine r_ittN ?_
  | with_reducible refine r_iffN ?_
  | ((with_reducible refine r_ittD ?rh ?_); (case rh => rfl))
  | ((with_reducible refine r_iffD ?rh ?_); (case rh => rfl))
  | ((with_reducible refine r_modP ?rh ?_); (case rh => decide))
  | ((with_reducible refine r_eq ?rh ?_); (case rh => rfl))
  | ((with_reducible refine r_eqP ?rh ?_); (case rh => rfl))
  | ((with_reducible refine r_ne ?rh ?_); (case rh => rfl)))
local macro_rules | `(tactic| walk_at "rd") => `(tactic| repeat walk_at "rd1")
local macro_rules | `(tactic| walk_at "isi") => `(tactic| first | refine r_isi (b := true) (by assumption) (by decide +kernel) ?_ | refine r_isi (b := false) (by assumption) (by decide +kernel) ?_)
local macro_rules | `(tactic| walk_at "rs1") => `(tactic| first
  | with_reducible refine r_seq ?_
  | with_reducible refine r_asg ?_
  | with_reducible refine r_gname ?_
  | with_reducible refine r_ret ?_)
local macro_rules | `(tactic| walk_at "rs") => `(tactic| repeat walk_at "rs1")

def fB (N most : Int) (b : Bool) (a : Iv) : Iv := if b then stB most a else stA N most a
def spCutL (K : PySem.W.Frag) : Sp := fun vs H Q _ => ∃ (z : Str) (v : V) (T : List Iv) (most : Int) (b : Bool), vs = [.str z, v, .int most, .bl b] ∧ TupV K PrV H v T ∧ T.length ≤ 200 ∧ Ord z.length T ∧ z.length ≤ 500 ∧ 0 ≤ most ∧
  ∀ u H' (S : List Sp3) C o, Ex H H' → (∀ m : List Iv, m.Pairwise Pk.Lx → m.Perm ((T.map (fB z.length most b)).filter ltIv) → S = cs3 ("" : Str) (jn m) ∧ SS (cutC (jn m) T) C ∧ cs o = spl (cs z) 0 (S.map s3)) → DueV H' u S C o → Q u H'
theorem fB_in {N most : Int} {b : Bool} {a : Iv} (h0 : 0 ≤ most) (ha : 0 ≤ Q46.lo a ∧ hi a ≤ N) : 0 ≤ (fB N most b a).1 ∧ (fB N most b a).1 ≤ (fB N most b a).2 ∧ (fB N most b a).2 ≤ N := by
  have := lo_hi a
  unfold fB stB stA
  cases b with
  | true => show 0 ≤ (if Q46.lo a = hi a then max (Q46.lo a - most) 0 else Q46.lo a) ∧ (if Q46.lo a = hi a then max (Q46.lo a - most) 0 else Q46.lo a) ≤ hi a ∧ hi a ≤ N; split <;> omega
  | false => show 0 ≤ Q46.lo a ∧ Q46.lo a ≤ (if Q46.lo a = hi a then min (hi a + most) N else hi a) ∧ (if Q46.lo a = hi a then min (hi a + most) N else hi a) ≤ N; split <;> omega
/-- the flags: which signs are gone -/
def Gone (gs : List Bool) (n : Nat) (St : List Iv) : Prop := gs.length = n ∧ ∀ k : Nat, k < n → (gs[k]? = some true ↔ Pk.cell St k)
theorem cell_snoc' {L : List Iv} {r : Iv} {x : Int} : Pk.cell (L ++ [r]) x ↔ Pk.cell L x ∨ (r.1 ≤ x ∧ x < r.2) := cell_snoc
theorem cell_filt {l m : List Iv} (h : m.Perm (l.filter ltIv)) (x : Int) : Pk.cell m x ↔ Pk.cell l x := by
  constructor
  · rintro ⟨r, hr, g⟩
    exact ⟨r, (List.mem_filter.mp (h.mem_iff.mp hr)).1, g⟩
  · rintro ⟨r, hr, g⟩
    refine ⟨r, h.mem_iff.mpr (List.mem_filter.mpr ⟨hr, ?_⟩), g⟩
    unfold ltIv
    exact decide_eq_true (by omega)
section
variable {P : Program} {w : World} {K : PySem.W.Frag} {mg : Str → Option Value} {base : Heap}
set_option maxHeartbeats 16000000 in
theorem ok_law_cut (T : Txt K mg) : FnOk P w K mg base CX0 1 T.a_law_cut T.d_law_cut ["_law_body", "_law_given", "_law_most", "_law_back"] (spCutL K) := by
  refine T.F_law_cut.ok sc_law_cut (fun vs H Q E h => ?_) (fun cdv A outer s H vs Q E hr h => ?_)
  · obtain ⟨z, v, Ts, t, _, rfl, _⟩ := h
    rfl
  · obtain ⟨z, v, Ts, most, b, rfl, ⟨p, xs, rfl, hp, hx⟩, hl, ho, hz, m0, q⟩ := h
    refine ⟨_, (pss_cons (ps_set (i := 4) sc_law_cut.nd rfl (Or.inr rfl) (pe_lc (own := [("_law_sign_here", 13)]) (g := gName 13) rfl sc_law_cut.nd (pi_str (pv 0)) (blkOk_by (N := N_law_cut) (sc := defScope s_law_cut) (by decide +kernel)) (fun _ _ _ _ _ => pg_name (i := 13) sc_law_cut.nd rfl (Or.inl rfl)) (fun _ _ _ _ _ => pts_nil) (fun _ _ _ _ _ => pe_bl)))
        (pss_cons (ps_for PassesOwn.never rfl (pi_tup (pv 1)) (pg_name (i := 5) sc_law_cut.nd rfl (Or.inl rfl)) (pss_cons (ps_set (i := 6) sc_law_cut.nd rfl (Or.inl rfl) (pe_callB (call_minP rfl hr.units65) (by rfl) T.n_min (by decide +kernel) (pa_cons (pv 5) pa_nil)))
        (pss_cons (ps_set (i := 7) sc_law_cut.nd rfl (Or.inl rfl) (pe_callB (call_maxP rfl hr.units65) (by rfl) T.n_max (by decide +kernel) (pa_cons (pv 5) pa_nil)))
        (Evl.pss_cut (ps_if (PW.pt (pw_and (pt_cmpR (op_eqU hr.units) (pv 6) (pv 7) (nomark _)) (pw_and1 (pt_val (pv 3))))) (pss_one (ps_set (i := 6) sc_law_cut.nd rfl (Or.inl rfl) (pe_callB (call_maxU rfl) (by rfl) T.n_max (by decide +kernel) (pa_cons pe_int (pa_cons (pe_op op_sub (pv 6) (pv 2)) pa_nil))))) (pss_one (ps_if (pt_cmpR (op_eqU hr.units) (pv 6) (pv 7) (nomark _)) (pss_one (ps_set (i := 7) sc_law_cut.nd rfl (Or.inl rfl) (pe_callB (call_minU rfl) (by rfl) T.n_min (by decide +kernel) (pa_cons (pe_callB call_lenU (by rfl) T.n_len (by decide +kernel) (pa_cons (pv 0) pa_nil)) (pa_cons (pe_op op_addU (pv 7) (pv 2)) pa_nil))))) pss_nil)))
        (pss_one (ps_for PassesOwn.never rfl (pi_range2 (by rfl) T.n_range (pa_cons (pv 6) (pa_cons (pv 7) pa_nil))) (pg_name (i := 8) sc_law_cut.nd rfl (Or.inl rfl)) (pss_one (ps_asg pe_bl (pg_sub (pv 4) (pv 8) set_list)))))))))
        (pss_cons (ps_set (i := 9) sc_law_cut.nd rfl (Or.inl rfl) (pe_lst pa_nil))
        (pss_cons (ps_for PassesOwn.never rfl (pi_range1 (by rfl) T.n_range (pa_cons (pe_callB call_lenU (by rfl) T.n_len (by decide +kernel) (pa_cons (pv 0) pa_nil)) pa_nil)) (pg_name (i := 8) sc_law_cut.nd rfl (Or.inl rfl)) (pss_one (ps_if (PW.pt (pw_and (pt_val (pe_ix ix_seq (pv 4) (pv 8) (fun _ _ => rfl))) (pw_and1 (PW.pt (pw_or (pt_cmpR (op_eqU hr.units) (pv 8) pe_int (nomark _)) (pw_or1 (pt_not (pt_val (pe_ix ix_seq (pv 4) (pe_op op_sub (pv 8) pe_int) (fun _ _ => rfl)))))))))) (pss_one (ps_expr (pe_bm PySem.F.plainAttrs_list PySem.F.slot_list_append PySem.F.type_list_append mt_append (pv 9) (pa_cons (pe_tup (pa_cons (pv 8) (pa_cons pe_int (pa_cons pe_str pa_nil)))) pa_nil)))) (pss_one (ps_if (pt_val (pe_ix ix_seq (pv 4) (pv 8) (fun _ _ => rfl))) (pss_one (ps_asg (pe_tup (pa_cons (pe_ix ix_seq (pe_ix ix_seq (pv 9) (pe_un un_neg pe_int) (fun _ _ => rfl)) pe_int (fun _ _ => rfl)) (pa_cons (pe_op op_addU (pe_ix ix_seq (pe_ix ix_seq (pv 9) (pe_un un_neg pe_int) (fun _ _ => rfl)) pe_int (fun _ _ => rfl)) pe_int) (pa_cons pe_str pa_nil)))) (pg_sub (pv 9) (pe_un un_neg pe_int) set_list))) pss_nil)))))
        (pss_cons (ps_set (i := 10) sc_law_cut.nd rfl (Or.inr rfl) (pe_lst (pa_cons pe_int pa_nil)))
        (pss_cons (ps_for PassesOwn.never rfl (pi_range1 (by rfl) T.n_range (pa_cons (pe_callB call_lenU (by rfl) T.n_len (by decide +kernel) (pa_cons (pv 0) pa_nil)) pa_nil)) (pg_name (i := 8) sc_law_cut.nd rfl (Or.inl rfl)) (pss_one (ps_expr (pe_bm PySem.F.plainAttrs_list PySem.F.slot_list_append PySem.F.type_list_append mt_append (pv 10) (pa_cons (pe_op op_addU (pe_ix ix_seq (pv 10) (pe_un un_neg pe_int) (fun _ _ => rfl)) (pe_callTy call_intU (by rfl) T.n_int (by decide +kernel) (pa_cons (pe_not (pe_ix ix_seq (pv 4) (pv 8) (fun _ _ => rfl))) pa_nil))) pa_nil)))))
        (pss_cons (ps_set (i := 11) sc_law_cut.nd rfl (Or.inl rfl) (pe_callB (Sx.cr_sortSU rfl) (by rfl) T.n_sorted (by decide +kernel) (pa_cons (pe_callTy (Sx.cr_setL rfl) (by rfl) T.n_set (by decide +kernel) (pa_cons (pe_lc (own := [("_law_pick", 5)]) (g := gName 5) rfl sc_law_cut.nd (pi_tup (pv 1)) (blkOk_by (N := N_law_cut) (sc := defScope s_law_cut) (by decide +kernel)) (fun _ _ _ _ _ => pg_name (i := 5) sc_law_cut.nd rfl (Or.inl rfl)) (fun _ _ _ _ _ => pts_nil) (fun _ _ _ _ _ => (pe_ix (k_ix (K := K) rfl) (pv 10) (pe_callB (k_minP (K := K) rfl rfl hr.units65) (by rfl) T.n_min (by decide +kernel) (pa_cons (pv 5) pa_nil)) (fun _ _ => rfl)))) pa_nil)) pa_nil)))
        (pss_cons (ps_set (i := 12) sc_law_cut.nd rfl (Or.inl rfl) (pe_join pe_str (pe_lc (own := [("_law_k", 8)]) (g := gName 8) rfl sc_law_cut.nd (pi_range1 (by rfl) T.n_range (pa_cons (pe_callB call_lenU (by rfl) T.n_len (by decide +kernel) (pa_cons (pv 0) pa_nil)) pa_nil)) (blkOk_by (N := N_law_cut) (sc := defScope s_law_cut) (by decide +kernel)) (fun _ _ _ _ _ => pg_name (i := 8) sc_law_cut.nd rfl (Or.inl rfl)) (fun _ _ _ _ _ => (pts_one (pt_not (pt_val (pe_ix (k_ix (K := K) rfl) (pv 4) (pv 8) (fun _ _ => rfl)))))) (fun _ _ _ _ _ => (pe_ix (k_ix (K := K) rfl) (pv 0) (pv 8) (fun _ _ => rfl))))))
        (pss_one (ps_ret (pe_lst (pa_cons (pv 9) (pa_cons (pv 11) (pa_cons (pv 12) pa_nil)))))))))))))), ?_⟩
    have zl : z.length ≤ sizeLine := by rw [sizeLine_eq]; omega
    have xl := hx.len
    obtain ⟨N, hN⟩ : ∃ N, N = z.length := ⟨_, rfl⟩
    have hzN : (cs z).length = N := by rw [cs_len, hN]
    walk_at "rd"
    refine l_lcS (fun C i H2 => Ex H H2 ∧ H2 C = some (.lst ((List.replicate i false).map V.bl))) (fun C hC => ⟨Same.new (Same.refl _) hC, upd_same⟩) (fun C i c H2 hC hc hP => ?_) (fun G H2 hG hP => ?_)
    · obtain ⟨e2, gC⟩ := hP
      have hi' : i < N := by rw [← hzN]; exact (List.getElem?_eq_some_iff.mp hc).1
      walk_at "rd"
      refine ⟨rfl, ?_⟩
      walk_at "rd"
      refine ⟨_, gC, by rw [List.length_map, List.length_replicate]; exact Nat.lt_of_le_of_lt (show i ≤ 1000 by omega) (by decide), Same.mut e2 hC, ?_⟩
      rw [upd_same, List.replicate_succ', List.map_append]
      rfl
    · obtain ⟨e2, gG⟩ := hP
      rw [← hN] at gG
      walk_at "rd"
      refine l_T (hp.up e2).sq (fun i σ H' => ∃ (y5 y6 y7 y8 : Option V) (gs : List Bool), σ = [some (.str z), some (.ref p), some (.int most), some (.bl b), some (.ref G), y5, y6, y7, y8, none, none, none, none, none] ∧ Ex H H' ∧ H' G = some (.lst (gs.map V.bl)) ∧ Gone gs N ((Ts.take i).map (fB N most b)))
        ⟨none, none, none, none, List.replicate N false, rfl, e2, gG, by rw [List.length_replicate], fun k hk => by
          rw [List.getElem?_replicate, if_pos hk]
          exact ⟨(fun z => nomatch z), fun z => absurd z Pk.cell_nil⟩⟩ (fun i σ H' h => ?_) (fun i x σ H' hx' hP => ?_) (fun σ H' hP => ?_)
      · obtain ⟨_, _, _, _, _, _, e, _⟩ := h
        exact (hp.up e).sq
      · obtain ⟨y5, y6, y7, y8, gs, rfl, e, gG, gl, hgs⟩ := hP
        obtain ⟨a, ha, hv⟩ := hx.get hx'
        have tk1 : Ts.take (i + 1) = Ts.take i ++ [a] := by rw [List.take_add_one, ha]; rfl
        have hva := imm (.ex e) hv
        have pa := ho.pos a (List.mem_of_getElem? ha)
        rw [← hN] at pa
        obtain ⟨f0, f1, f2⟩ := fB_in (N := N) (b := b) m0 pa
        walk_at "rd"
        refine r_minP hva ?_
        walk_at "rd"
        refine r_maxP hva ?_
        walk_at "rd"
        refine ⟨fun σ H3 => H3 = H' ∧ σ = [some (.str z), some (.ref p), some (.int most), some (.bl b), some (.ref G), some x, some (.int (fB N most b a).1), some (.int (fB N most b a).2), y8, none, none, none, none, none], ?_, ?_⟩
        · have la : Q46.lo a = min a.1 a.2 := rfl
          have ha' : hi a = max a.1 a.2 := rfl
          walk_at "rd"
          refine r_ite (fun c => ?_) (fun c => ?_)
          · have c := V.int.inj c
            cases b with
            | true =>
              walk_at "rd"
              refine ⟨rfl, ?_⟩
              have e1 : (fB N most true a).1 = max 0 (min a.1 a.2 - most) := by
                show (if Q46.lo a = hi a then max (Q46.lo a - most) 0 else Q46.lo a) = _
                rw [if_pos (by rw [la, ha']; exact c), la]
                omega
              rw [e1]
              rfl
            | false =>
              walk_at "rd"
              refine r_ite (fun _ => ?_) (fun c2 => absurd (by rw [c]) c2)
              walk_at "rd"
              refine r_lenS zl ?_
              rw [← hN]
              walk_at "rd"
              refine ⟨rfl, ?_⟩
              have e1 : (fB N most false a).2 = min (N : Int) (max a.1 a.2 + most) := by
                show (if Q46.lo a = hi a then min (hi a + most) (N : Int) else hi a) = _
                rw [if_pos (by rw [la, ha']; exact c), ha']
                omega
              rw [e1]
              rfl
          · have c' : ¬ min a.1 a.2 = max a.1 a.2 := fun z => c (by rw [z])
            walk_at "rd"
            refine r_ite (fun c2 => absurd c2 c) (fun _ => ?_)
            walk_at "rd"
            refine ⟨rfl, ?_⟩
            cases b with
            | true =>
              have e1 : (fB N most true a).1 = min a.1 a.2 := by
                show (if Q46.lo a = hi a then max (Q46.lo a - most) 0 else Q46.lo a) = _
                rw [if_neg (by rw [la, ha']; exact c'), la]
              rw [e1]
              rfl
            | false =>
              have e1 : (fB N most false a).2 = max a.1 a.2 := by
                show (if Q46.lo a = hi a then min (hi a + most) (N : Int) else hi a) = _
                rw [if_neg (by rw [la, ha']; exact c'), ha']
              rw [e1]
              rfl
        · rintro σ H3 ⟨rfl, rfl⟩
          obtain ⟨fl, hfl⟩ := Int.eq_ofNat_of_zero_le f0
          obtain ⟨fh, hfh⟩ := Int.eq_ofNat_of_zero_le (show 0 ≤ (fB N most b a).2 by omega)
          rw [hfl, hfh]
          walk_at "rd"
          refine l_R2g (a := fl) (n := fh - fl) rfl (by omega) (by omega) (fun k σ H4 => ∃ (y8 : Option V) (gs : List Bool), σ = [some (.str z), some (.ref p), some (.int most), some (.bl b), some (.ref G), some x, some (.int (fl : Nat)), some (.int (fh : Nat)), y8, none, none, none, none, none] ∧ Ex H H4 ∧ H4 G = some (.lst (gs.map V.bl)) ∧ gs.length = N ∧ ∀ j : Nat, j < N → (gs[j]? = some true ↔ Pk.cell ((Ts.take i).map (fB N most b)) j ∨ (fl ≤ j ∧ j < fl + k)))
            ⟨y8, gs, rfl, e, gG, gl, fun j hj => by rw [hgs j hj]; exact ⟨.inl, fun g => g.elim id fun g => by omega⟩⟩ (fun k σ H4 hk hP => ?_) (fun σ H4 hP => ?_)
          · obtain ⟨y8, gs, rfl, e4, gG4, gl4, hg4⟩ := hP
            walk_at "rd"
            refine r_setL gG4 (n := fl + k) (ixN_nat (by omega) (by rw [List.length_map]; omega)) ?_
            refine ⟨_, gs.set (fl + k) true, rfl, Same.mut e4 hG, by rw [upd_same, List.map_set], by rw [List.length_set]; exact gl4, fun j hj => ?_⟩
            by_cases ej : j = fl + k
            · subst ej
              rw [List.getElem?_set_self (by omega)]
              exact ⟨fun _ => .inr ⟨by omega, by omega⟩, fun _ => rfl⟩
            · rw [List.getElem?_set_ne (Ne.symm ej), hg4 j hj]
              constructor
              · exact fun g => g.imp id fun g => ⟨g.1, by omega⟩
              · exact fun g => g.imp id fun g => ⟨g.1, by omega⟩
          · obtain ⟨y8, gs, rfl, e4, gG4, gl4, hg4⟩ := hP
            refine ⟨_, _, _, _, gs, rfl, e4, gG4, gl4, fun j hj => ?_⟩
            rw [hg4 j hj, tk1, List.map_append, List.map_singleton, cell_snoc', hfl, hfh]
            constructor
            · exact fun g => g.imp id fun g => ⟨by omega, by omega⟩
            · exact fun g => g.imp id fun g => ⟨by omega, by omega⟩
      · obtain ⟨y5, y6, y7, y8, gs, rfl, e, gG, gl, hgs⟩ := hP
        rw [xl, List.take_length] at hgs
        obtain ⟨g, hg⟩ : ∃ g : Nat → Bool, g = fun k => gs.getD k false := ⟨_, rfl⟩
        have gat : ∀ k, k < N → gs[k]? = some (g k) := fun k hk => by
          rw [hg]
          show _ = some (gs.getD k false)
          rw [List.getD_eq_getElem?_getD, List.getElem?_eq_getElem (by omega)]
          rfl
        have gcell : ∀ k : Nat, k < N → (g k = true ↔ Pk.cell (Ts.map (fB N most b)) k) := fun k hk => by
          rw [← hgs k hk, gat k hk]
          exact ⟨fun z => by rw [z], fun z => Option.some.inj z⟩
        have cellb : ∀ x : Int, Pk.cell (Ts.map (fB N most b)) x → 0 ≤ x ∧ x < N := fun x ⟨r, hr, h1⟩ => by
          obtain ⟨a, ha, rfl⟩ := List.mem_map.mp hr
          have pa := ho.pos a ha
          rw [← hN] at pa
          have := fB_in (N := N) (b := b) m0 pa
          omega
        have blat : ∀ k, k < N → (gs.map V.bl)[k]? = some (V.bl (g k)) := fun k hk => by rw [List.getElem?_map, gat k hk]; rfl
        walk_at "rd"
        refine r_small nsz fun S hS => ?_
        obtain ⟨H3, k3, e3, h3⟩ := new1 hS (.lst [])
        rw [← k3]
        have hSH : H S = none := e.free hS
        have neGS : G ≠ S := fun z => by rw [z, hS] at gG; cases gG
        walk_at "rd"
        refine r_lenS zl ?_
        rw [← hN]
        walk_at "rd"
        refine l_R (by omega) (by omega) (fun k σ H' => ∃ (y8 : Option V) (ss : List V) (L : List Iv), σ = [some (.str z), some (.ref p), some (.int most), some (.bl b), some (.ref G), y5, y6, y7, y8, some (.ref S), none, none, none, none] ∧ Ex H H' ∧ H' G = some (.lst (gs.map V.bl)) ∧ H' S = some (.lst ss) ∧ P2 (TrS H') ss (cs3 ("" : Str) L) ∧ RunAt g k L ∧ L.length ≤ k)
          ⟨y8, [], [], rfl, e.trans e3, e3 _ _ gG, h3, .nil, RunAt.start, Nat.le_refl _⟩ (fun k σ H' hk hP => ?_) (fun σ H' hP => ?_)
        · obtain ⟨y8, ss, L, rfl, e4, g4, gS, hss, hR, ll⟩ := hP
          have kN : k < N := by omega
          have sl : ss.length ≤ 1000 := by
            rw [hss.len]
            unfold cs3
            rw [List.length_map]
            omega
          with_reducible refine r_gname ?_
          with_reducible refine r_ifS ?_
          refine any_test (S := fun c H'' => H'' = H' ∧ (c = true ↔ g k = true ∧ (k = 0 ∨ g (k - 1) = false))) (fun QB kk => ?_) (fun c H'' hc => ?_)
          · walk_at "rd"
            refine r_ixL (sqL g4) (atI_nat (blat k kN)) ?_
            refine ⟨_, rfl, ?_⟩
            refine r_iteB (fun c => ?_) (fun c => ?_)
            · walk_at "rd"
              refine r_ite (fun c0 => ?_) (fun c0 => ?_)
              · have c0 := V.int.inj c0
                exact kk true H' ⟨rfl, fun _ => ⟨c, .inl (by omega)⟩, fun _ => rfl⟩
              · have c0 : ¬ k = 0 := fun z => c0 (by rw [z]; rfl)
                walk_at "rd"
                refine r_ixL (sqL g4) (at_g (j := k - 1) (by omega) (blat (k - 1) (by omega))) ?_
                refine ⟨_, rfl, kk _ H' ⟨rfl, ?_⟩⟩
                rw [Bool.not_eq_true']
                exact ⟨fun z => ⟨c, .inr z⟩, fun z => z.2.resolve_left c0⟩
            · exact kk false H' ⟨rfl, (fun z => nomatch z), fun z => by rw [c] at z; exact nomatch z.1⟩
          · obtain ⟨rfl, hc⟩ := hc
            cases c with
            | true =>
              obtain ⟨gk, hp1⟩ := hc.mp rfl
              walk_at "rd"
              refine r_tyL (sqL gS) ?_
              walk_at "rd"
              refine r_small nsz fun p3 hp3 => ?_
              obtain ⟨H5, k5, e5, h5⟩ := new1 hp3 (.tup [.int (k : Nat), .int 1, .str ""])
              rw [← k5]
              walk_at "rd"
              refine r_app (e5 _ _ gS) (Nat.lt_of_le_of_lt sl (by decide)) ?_
              have tk : Tk H5 (upd H5 S (.lst (ss ++ [.ref p3]))) := .put (e5 _ _ gS)
              refine ⟨_, _, L ++ [((k : Int), (k : Int) + 1)], rfl, Same.mut (e4.trans e5) hSH, by rw [upd_ne neGS]; exact e5 _ _ g4, upd_same, ?_, hR.new gk hp1, by rw [List.length_append]; simp; omega⟩
              have e7 : cs3 ("" : Str) (L ++ [((k : Int), (k : Int) + 1)]) = cs3 ("" : Str) L ++ [((k : Int), (1 : Int), ("" : Str))] := by
                unfold cs3
                rw [List.map_append]
                show _ ++ [((k : Int), (k : Int) + 1 - (k : Int), ("" : Str))] = _
                rw [show (k : Int) + 1 - (k : Int) = 1 by omega]
              rw [e7]
              exact (p2_imm (.trans (.ex e5) tk) hss).snoc (imm tk ⟨p3, rfl, h5⟩)
            | false =>
              have no : ¬ (g k = true ∧ (k = 0 ∨ g (k - 1) = false)) := fun z => nomatch hc.mpr z
              walk_at "rd"
              refine r_ixL (sqL g4) (atI_nat (blat k kN)) ?_
              refine ⟨_, rfl, ?_⟩
              refine r_iteB (fun c => ?_) (fun c => ?_)
              · have k0 : 0 < k := Nat.pos_of_ne_zero fun z => no ⟨c, .inl z⟩
                have gp : g (k - 1) = true := by
                  cases h : g (k - 1) with
                  | true => rfl
                  | false => exact absurd ⟨c, .inr h⟩ no
                obtain ⟨Pf, a, rfl, hR2⟩ := hR.more c k0 gp
                have e7 : cs3 ("" : Str) (Pf ++ [(a, (k : Int))]) = cs3 ("" : Str) Pf ++ [(a, (k : Int) - a, ("" : Str))] := by
                  unfold cs3
                  rw [List.map_append]
                  rfl
                rw [e7] at hss
                obtain ⟨ss0, vz, rfl, hP0, hz'⟩ : ∃ ss0 vz, ss = ss0 ++ [vz] ∧ P2 (TrS H'') ss0 (cs3 ("" : Str) Pf) ∧ TrS H'' vz (a, (k : Int) - a, ("" : Str)) := by
                  have flen := hss.len
                  rw [List.length_append, List.length_singleton] at flen
                  have ne : ss ≠ [] := fun z => by rw [z] at flen; simp at flen
                  refine ⟨ss.dropLast, ss.getLast ne, (List.dropLast_concat_getLast ne).symm, ?_, ?_⟩
                  · have h1 := hss.take (cs3 ("" : Str) Pf).length
                    rw [List.take_left' rfl] at h1
                    rw [List.dropLast_eq_take, flen, Nat.add_sub_cancel]
                    exact h1
                  · obtain ⟨u, hu, hr⟩ := hss.get' (i := (cs3 ("" : Str) Pf).length) (b := (a, (k : Int) - a, ("" : Str))) (by simp)
                    have h3 : ss[ss.length - 1]? = some (ss.getLast ne) := by rw [← List.getLast?_eq_getElem?]; exact List.getLast?_eq_some_getLast ne
                    rw [flen, Nat.add_sub_cancel, hu] at h3
                    rw [← Option.some.inj h3]
                    exact hr
                obtain ⟨pz, rfl, hpz⟩ := id hz'
                walk_at "rd"
                refine r_ixL (sqL gS) (atI_last _ _) ?_
                walk_at "rd"
                refine r_ixT (sqT hpz) (atI_nat (j := 0) rfl) ?_
                walk_at "rd"
                refine r_ixL (sqL gS) (atI_last _ _) ?_
                walk_at "rd"
                refine r_ixT (sqT hpz) (atI_nat (j := 1) rfl) ?_
                walk_at "rd"
                refine r_small nsz fun p3 hp3 => ?_
                obtain ⟨H5, k5, e5, h5⟩ := new1 hp3 (.tup [.int a, .int ((k : Int) - a + 1), .str ""])
                rw [← k5]
                walk_at "rd"
                refine r_setL (e5 _ _ gS) (n := ss0.length) ?_ ?_
                · rw [List.length_append, List.length_singleton]
                  unfold ixN
                  rw [if_neg (by omega), if_pos (by omega)]
                  congr 1
                  omega
                · have e8 : (ss0 ++ [V.ref pz]).set ss0.length (.ref p3) = ss0 ++ [.ref p3] := by
                    rw [List.set_append_right _ _ (Nat.le_refl _), Nat.sub_self]
                    rfl
                  rw [e8]
                  have tk : Tk H5 (upd H5 S (.lst (ss0 ++ [.ref p3]))) := .put (e5 _ _ gS)
                  refine ⟨_, _, Pf ++ [(a, (k : Int) + 1)], rfl, Same.mut (e4.trans e5) hSH, by rw [upd_ne neGS]; exact e5 _ _ g4, upd_same, ?_, hR2, by rw [List.length_append] at ll ⊢; simp at ll ⊢; omega⟩
                  have e9 : cs3 ("" : Str) (Pf ++ [(a, (k : Int) + 1)]) = cs3 ("" : Str) Pf ++ [(a, (k : Int) - a + 1, ("" : Str))] := by
                    unfold cs3
                    rw [List.map_append]
                    show _ ++ [(a, (k : Int) + 1 - a, ("" : Str))] = _
                    rw [show (k : Int) + 1 - a = (k : Int) - a + 1 by omega]
                  rw [e9]
                  exact (p2_imm (.trans (.ex e5) tk) hP0).snoc (imm tk ⟨p3, rfl, h5⟩)
              · walk_at "rd"
                exact ⟨_, ss, L, rfl, e4, g4, gS, hss, hR.skip c, by omega⟩
        · obtain ⟨y8, ss, L, rfl, e4, g4, gS, hss, hR, ll⟩ := hP
          rw [Int.toNat_natCast] at hR ll
          walk_at "rd"
          refine r_small nsz fun F hF => ?_
          obtain ⟨H5, k5, e5, h5⟩ := new1 hF (.lst [.int 0])
          rw [← k5]
          have hFH : H F = none := e4.free hF
          have neGF : G ≠ F := fun z => by rw [z, hF] at g4; cases g4
          have neSF : S ≠ F := fun z => by rw [z, hF] at gS; cases gS
          walk_at "rd"
          refine r_lenS zl ?_
          rw [← hN]
          walk_at "rd"
          refine l_R (by omega) (by omega) (fun k σ H' => ∃ (y8 : Option V), σ = [some (.str z), some (.ref p), some (.int most), some (.bl b), some (.ref G), y5, y6, y7, y8, some (.ref S), some (.ref F), none, none, none] ∧ Ex H H' ∧ H' G = some (.lst (gs.map V.bl)) ∧ H' S = some (.lst ss) ∧ Tk H5 H' ∧ H' F = some (.lst ((List.range (k + 1)).map fun i => V.int (cnt g i : Nat))))
            ⟨y8, rfl, e4.trans e5, e5 _ _ g4, e5 _ _ gS, Tk.refl _, h5⟩ (fun k σ H' hk hP => ?_) (fun σ H' hP => ?_)
          · obtain ⟨y8, rfl, e6, g6, gS6, tk6, gF⟩ := hP
            have kN : k < N := by omega
            have gF' : H' F = some (.lst (((List.range k).map fun i => V.int (cnt g i : Nat)) ++ [V.int (cnt g k : Nat)])) := by rw [gF, List.range_succ, List.map_append]; rfl
            walk_at "rd"
            refine r_tyL (sqL gF) ?_
            walk_at "rd"
            refine r_ixL (sqL gF') (atI_last _ _) ?_
            walk_at "rd"
            refine r_ixL (sqL g6) (atI_nat (blat k kN)) ?_
            refine ⟨_, rfl, ?_⟩
            walk_at "rd"
            refine r_bool ?_
            walk_at "rd"
            refine r_app gF (by rw [List.length_map, List.length_range]; exact Nat.lt_of_le_of_lt (show k + 1 ≤ 1000 by omega) (by decide)) ?_
            refine ⟨_, rfl, Same.mut e6 hFH, by rw [upd_ne neGF]; exact g6, by rw [upd_ne neSF]; exact gS6, tk6.trans (.put gF), ?_⟩
            rw [upd_same, List.range_succ (n := k + 1), List.map_append]
            have ec : ((cnt g k : Nat) : Int) + (if (!g k) = true then 1 else 0) = ((cnt g (k + 1) : Nat) : Int) := by
              rw [cnt_succ]
              cases g k with
              | true => simp
              | false => simp
            show some (HO.lst (_ ++ [V.int (((cnt g k : Nat) : Int) + (if (!g k) = true then 1 else 0))])) = _
            rw [ec]
            rfl
          · obtain ⟨y8, rfl, e6, g6, gS6, tk6, gF⟩ := hP
            rw [Int.toNat_natCast] at gF
            walk_at "rd"
            refine l_lcT (hp.up e6).sq (fun C i H7 => Ex H' H7 ∧ H7 C = some (.lst (((Ts.take i).map fun a : Iv => ((cnt g (Q46.lo a).toNat : Nat) : Int)).map V.int))) (fun C hC => ⟨Same.new (Same.refl _) hC, upd_same⟩) (fun C i H7 hP => (hp.up (e6.trans hP.1)).sq) (fun C i x H7 hC hx' hP => ?_) (fun C H7 hC hP => ?_)
            · obtain ⟨e7, gC⟩ := hP
              obtain ⟨a, ha, hv⟩ := hx.get hx'
              have tk1 : Ts.take (i + 1) = Ts.take i ++ [a] := by rw [List.take_add_one, ha]; rfl
              have il : i < Ts.length := (List.getElem?_eq_some_iff.mp ha).1
              have pa := ho.pos a (List.mem_of_getElem? ha)
              have := lo_hi a
              walk_at "rd"
              refine ⟨rfl, ?_⟩
              walk_at "rd"
              refine r_minP (imm (.ex (e6.trans e7)) hv) ?_
              refine r_ixL (sqL (e7 _ _ gF)) (at_g (j := (Q46.lo a).toNat) (by show Q46.lo a = _; omega) (by rw [List.getElem?_map, List.getElem?_range (by omega)]; rfl)) ?_
              refine ⟨_, gC, by rw [List.length_map, List.length_map, List.length_take]; exact Nat.lt_of_le_of_lt (show min i Ts.length ≤ 1000 by omega) (by decide), Same.mut e7 hC, ?_⟩
              rw [upd_same, tk1, List.map_append, List.map_append]
              rfl
            · obtain ⟨e7, gC⟩ := hP
              rw [xl, List.take_length] at gC
              refine r_setSort (sqL gC) (by rw [List.length_map]; omega) fun ns dd H8 e8 hpw hmem h8 => ?_
              have e68 := e7.trans e8
              walk_at "rd"
              refine ⟨⟨_, rfl⟩, ?_⟩
              walk_at "rd"
              refine r_lenS zl ?_
              rw [← hN]
              walk_at "rd"
              refine l_lcR (by omega) (by omega) (fun C i H9 => Ex H8 H9 ∧ H9 C = some (.lst (((kept g (cs z) 0 i).map fun c => (⟨#[c]⟩ : Str)).map V.str)) ∧ (kept g (cs z) 0 i).length ≤ i) (fun C hC => ⟨Same.new (Same.refl _) hC, upd_same, Nat.le_refl _⟩) (fun C i H9 hC hi hP => ?_) (fun C H9 hC hP => ?_)
              · obtain ⟨e9, gC9, kl⟩ := hP
                have iN : i < N := by omega
                have hc : (cs z)[i]? = some ((cs z)[i]'(by omega)) := List.getElem?_eq_getElem _
                have ks : kept g (cs z) 0 (i + 1) = kept g (cs z) 0 i ++ if g i then [] else [(cs z)[i]'(by omega)] := by
                  rw [← kept_app (g := g) (z := cs z) (Nat.zero_le i) (Nat.le_succ i)]
                  congr 1
                  unfold kept
                  rw [show i + 1 - i = 1 by omega]
                  show List.filterMap _ [i] = _
                  rw [List.filterMap_cons, List.filterMap_nil, hc]
                  cases g i <;> rfl
                walk_at "rd"
                refine ⟨rfl, ?_⟩
                walk_at "rd"
                refine r_ixL (sqL (e9 _ _ (e68 _ _ g6))) (atI_nat (blat i iN)) ?_
                refine ⟨_, rfl, ?_⟩
                refine r_iteB (fun c => ?_) (fun c => ?_)
                · rw [Bool.not_eq_true'] at c
                  walk_at "rd"
                  refine r_ixS zl (atI_nat hc) ?_
                  refine ⟨_, gC9, by rw [List.length_map, List.length_map]; exact Nat.lt_of_le_of_lt (show _ ≤ 1000 by omega) (by decide), Same.mut e9 hC, ?_, ?_⟩
                  · rw [upd_same, ks, c, List.map_append, List.map_append]
                    rfl
                  · rw [ks, c, List.length_append]
                    show _ + 1 ≤ _
                    omega
                · rw [Bool.not_eq_false'] at c
                  refine ⟨e9, ?_, ?_⟩
                  · rw [ks, c, gC9]
                    show _ = some (HO.lst (((kept g (cs z) 0 i ++ []).map _).map _))
                    rw [List.append_nil]
                  · rw [ks, c]
                    show (kept g (cs z) 0 i ++ []).length ≤ _
                    rw [List.append_nil]
                    omega
              · obtain ⟨e9, gC9, kl⟩ := hP
                rw [Int.toNat_natCast] at gC9 kl
                have hcs : cs (Txt.join "" ((kept g (cs z) 0 N).map fun c => (⟨#[c]⟩ : Str))) = kept g (cs z) 0 N := by
                  rw [cs_join, List.map_map]
                  clear gC9 kl
                  induction kept g (cs z) 0 N with
                  | nil => rfl
                  | cons c r ih => rw [List.map_cons, List.flatten_cons, ih]; rfl
                refine ⟨"", C, _, rfl, rfl, .inl (sqL gC9), ?_, ?_⟩
                · have hb := sum_bound (ps := (kept g (cs z) 0 N).map fun c => (⟨#[c]⟩ : Str)) (b := 1) fun x hx => by
                    obtain ⟨c, _, rfl⟩ := List.mem_map.mp hx
                    exact Nat.le_refl 1
                  have h5 : ("" : Str).length = 0 := rfl
                  rw [h5, Nat.mul_zero, Nat.add_zero]
                  rw [List.length_map] at hb
                  omega
                · walk_at "rd"
                  refine r_small nsz fun p10 hp10 => ?_
                  obtain ⟨H10, k10, e10, h10⟩ := new1 hp10 (.lst [.ref S, .ref dd, .str (Txt.join "" ((kept g (cs z) 0 N).map fun c => (⟨#[c]⟩ : Str)))])
                  rw [← k10]
                  have eF := e68.trans (e9.trans e10)
                  refine q _ _ (cs3 ("" : Str) L) ns _ (e6.trans eF) (fun m pw pm => ?_) ⟨p10, S, dd, ss, rfl, h10, eF _ _ gS6, p2_imm (.trans (.ex e5) (tk6.trans (.ex eF))) hss, e10 _ _ (e9 _ _ h8)⟩
                  rw [← hN] at pm
                  have ne : ∀ z ∈ m, z.1 < z.2 := fun r hr => by
                    have := (List.mem_filter.mp (pm.mem_iff.mp hr)).2
                    unfold ltIv at this
                    exact of_decide_eq_true this
                  have hgm : ∀ x : Int, Pk.cell m x ↔ 0 ≤ x ∧ x < N ∧ g x.toNat = true := fun x => by
                    rw [cell_filt pm]
                    constructor
                    · intro h
                      obtain ⟨a1, a2⟩ := cellb x h
                      refine ⟨a1, a2, (gcell x.toNat (by omega)).mpr ?_⟩
                      rw [Int.toNat_of_nonneg a1]
                      exact h
                    · rintro ⟨a1, a2, a3⟩
                      have := (gcell x.toNat (by omega)).mp a3
                      rw [Int.toNat_of_nonneg a1] at this
                      exact this
                  have eL : L = jn m := hR.eq ne pw hgm
                  obtain ⟨j1, j2, j3⟩ := jn_ok ne pw
                  have jcell : ∀ x : Int, Pk.cell (jn m) x ↔ 0 ≤ x ∧ x < N ∧ g x.toNat = true := fun x => by rw [j2, hgm]
                  have gj : ∀ k : Nat, k < N → (g k = true ↔ Pk.cell (jn m) k) := fun k hk => by
                    rw [jcell, Int.toNat_natCast]
                    exact ⟨fun h => ⟨by omega, by omega, h⟩, fun h => h.2.2⟩
                  have jb : ∀ r ∈ jn m, (0 : Int) ≤ r.1 ∧ r.2 ≤ N := fun r hr => by
                    have lt := j1.1 r hr
                    have c1 := (jcell r.1).mp ⟨r, hr, Int.le_refl _, lt⟩
                    have c2 := (jcell (r.2 - 1)).mp ⟨r, hr, by omega, by omega⟩
                    omega
                  refine ⟨by rw [eL], ⟨hpw, fun x => ?_⟩, ?_⟩
                  · rw [hmem]
                    have ee : cutC (jn m) Ts = Ts.map fun a : Iv => ((cnt g (Q46.lo a).toNat : Nat) : Int) := by
                      unfold cutC
                      refine List.map_congr_left fun a ha => ?_
                      have pa := ho.pos a ha
                      have := lo_hi a
                      have h := ahead_cnt j1 (fun r hr => (jb r hr).1) gj (Q46.lo a).toNat (by omega)
                      rw [Int.toNat_of_nonneg pa.1] at h
                      exact h
                    rw [ee]
                  · rw [hcs, eL]
                    have ms : (cs3 ("" : Str) (jn m)).map s3 = cs3 ([] : List Nat) (jn m) := by
                      unfold cs3
                      rw [List.map_map]
                      rfl
                    rw [ms]
                    have := cut_kept (z := cs z) (g := g) (J := jn m) (d := 0) j1 (fun r hr => by rw [hzN]; exact jb r hr) (Nat.zero_le _) (fun k _ hk => gj k (by omega))
                    rw [hzN] at this
                    exact this.symm
end
end K46

namespace K46
open PySem PySem.Spec PyProof.Rows L2 Dk Q46
/-- one step of a reading -/
local macro_rules | `(tactic| walk_at "rd1") => `(tactic| first
  | ((with_reducible refine r_var (v := ?rv) ?rh ?_); (case rh => rfl))
  | with_reducible refine r_c ?_
  | with_reducible refine r_seq ?_
  | with_reducible refine r_asg ?_
  | with_reducible refine r_par ?_
  | with_reducible refine r_gname ?_
  | with_reducible refine r_op ?_
  | with_reducible refine r_forLo ?_
  | with_reducible refine r_forTo ?_
  | with_reducible refine r_forSo ?_
  | with_reducible refine r_forRo ?_
  | with_reducible refine r_forRvo ?_
  | with_reducible refine r_forZo ?_
  | with_reducible refine r_revS ?_
  | with_reducible refine r_lcRo ?_
  | with_reducible refine r_lcLo ?_
  | with_reducible refine r_yes ?_
  | with_reducible refine r_callK0 ?_
  | with_reducible refine r_break ?_
  | with_reducible refine r_continue ?_
  | with_reducible refine r_forR2o ?_
  | with_reducible refine r_forEo ?_
  | with_reducible refine r_forESo ?_
  | with_reducible refine r_xfo ?_
  | with_reducible refine r_noP ?_
  | with_reducible refine r_part ?_
  | with_reducible refine r_pI ?_
  | with_reducible refine r_gcons ?_
  | with_reducible refine r_gnil ?_
  | with_reducible refine r_mkO ?_
  | with_reducible refine r_un ?_
  | with_reducible refine r_addI ?_
  | with_reducible refine r_I0 ?_
  | with_reducible refine r_U ?_
  | with_reducible refine r_cons ?_
  | with_reducible refine r_nil ?_
  | with_reducible refine r_CB ?_
  | with_reducible refine r_call ?_
  | with_reducible refine r_callS ?_
  | with_reducible refine r_int ?_
  | with_reducible refine r_max ?_
  | with_reducible refine r_min ?_
  | with_reducible refine r_test ?_
  | with_reducible refine r_B ?_
  | with_reducible refine r_blv ?_
  | with_reducible refine r_and ?_
  | with_reducible refine r_or ?_
  | with_reducible refine r_not ?_
  | with_reducible refine r_andV ?_
  | with_reducible refine r_orV ?_
  | with_reducible refine r_notV ?_
  | with_reducible refine r_ifE ?_
  | with_reducible refine r_ifS ?_
  | with_reducible refine r_ret ?_
  | with_reducible refine r_retN ?_
  | with_reducible refine r_drop ?_
  | with_reducible refine r_next ?_
  | with_reducible refine r_sl ?_
  | with_reducible refine r_gsub ?_
  | with_reducible refine r_bm ?_
  | with_reducible refine r_bm0 ?_
  | with_reducible refine r_tup ?_
  | with_reducible refine r_lst ?_
  | with_reducible refine r_isN ?_
  | with_reducible refine r_notN ?_
  | with_reducible refine r_chain ?_
  | with_reducible refine r_callK ?_
  | with_reducible refine r_isB ?_
  | with_reducible refine r_lcEio ?_
  | with_reducible refine r_forEi ?_
  | with_reducible refine r_lcTo ?_
  | with_reducible refine r_lcSo ?_
  | with_reducible refine r_m1 ?_
  | with_reducible refine r_dget ?_
  | with_reducible refine r_din ?_
  | with_reducible refine r_dnotin ?_
  | with_reducible refine r_starC ?_
  | with_reducible refine r_callKS ?_
  | with_reducible refine r_itt ?_
  | with_reducible refine r_iff ?_
  | with_reducible refine r_ittN ?_
  | with_reducible refine r_iffN ?_
  | ((with_reducible refine r_ittD ?rh ?_); (case rh => rfl))
  | ((with_reducible refine r_iffD ?rh ?_); (case rh => rfl))
  | ((with_reducible refine r_modP ?rh ?_); (case rh => decide))
  | ((with_reducible refine r_eq ?rh ?_); (case rh => rfl))
  | ((with_reducible refine r_eqP ?rh ?_); (case rh => rfl))
  | ((with_reducible refine r_ne ?rh ?_); (case rh => rfl)))
local macro_rules | `(tactic| walk_at "rd") => `(tactic| repeat walk_at "rd1")
local macro_rules | `(tactic| walk_at "isi") => `(tactic| first | refine r_isi (b := true) (by assumption) (by decide +kernel) ?_ | refine r_isi (b := false) (by assumption) (by decide +kernel) ?_)
local macro_rules | `(tactic| walk_at "rs1") => `(tactic| first
  | with_reducible refine r_seq ?_
  | with_reducible refine r_asg ?_
  | with_reducible refine r_gname ?_
  | with_reducible refine r_ret ?_)
local macro_rules | `(tactic| walk_at "rs") => `(tactic| repeat walk_at "rs1")

def spLN : Sp := fun vs H Q _ => ∃ i : Int, vs = [.int i] ∧ Q (.bl true) H
def spSpS : Sp := fun vs H Q _ => ∃ (v u : V) (x : Sp3), vs = [v, u] ∧ TrS H v x ∧ TrS H u x ∧ Q (.bl true) H
def spLS (K : PySem.W.Frag) : Sp := fun vs H Q _ => ∃ (v u : V) (S : List Sp3) (C : List Int) (o : Str), vs = [v, u] ∧ EntV K H v S C ∧ DueV H u S C o ∧ S.length ≤ 1000 ∧ C.length ≤ 4000 ∧ Q (.bl true) H
def spLD (K : PySem.W.Frag) : Sp := fun vs H Q _ => ∃ (z : Str) (v u : V) (S : List Sp3) (C : List Int) (o : Str), vs = [.str z, v, u] ∧ EntV K H v S C ∧ DueV H u S C o ∧ (S ≠ [] → Rrd z.length S) ∧ C.length ≤ 4000 ∧ z.length ≤ 1000 ∧ cs o = spl (cs z) 0 (S.map s3) ∧ ∀ H', Ex H H' → Q (.bl true) H'
section
variable {P : Program} {w : World} {K : PySem.W.Frag} {mg : Str → Option Value} {base : Heap}
theorem tyTV {H : Hp} {α : Type} {R : Hp → V → α → Prop} {v : V} {l : List α} (h : TupV K R H v l) : TyX K H v (.type "tuple") := by
  obtain ⟨p, xs, rfl, hp, _⟩ := h
  rcases hp with h | ⟨o, its, n, h1, h2, _⟩
  · exact .base (.tup h)
  · exact .kTuple h1 h2
theorem ok_law_number (T : Txt K mg) : FnOk P w K mg base CX0 1 T.a_law_number T.d_law_number ["_law_thing"] spLN := by
  refine T.F_law_number.ok sc_law_number (fun vs H Q E h => ?_) (fun cdv A outer s H vs Q E hr h => ?_)
  · obtain ⟨i, rfl, _⟩ := h
    rfl
  · obtain ⟨i, rfl, q⟩ := h
    refine ⟨_, (pss_one (ps_ret (pe_and (pe_callB call_isi (by rfl) T.n_isinstance (by decide +kernel) (pa_cons (pv 0) (pa_cons (pe_bltn (v := .ty "int") (by rfl) T.n_int (by decide +kernel) rfl) pa_nil))) (pe_one (pe_not (pe_callB call_isi (by rfl) T.n_isinstance (by decide +kernel) (pa_cons (pv 0) (pa_cons (pe_bltn (v := .ty "bool") (by rfl) T.n_bool (by decide +kernel) rfl) pa_nil)))))))), ?_⟩
    have ty : TyX K H (.int i) (.type "int") := .base (.int i)
    walk_at "rd"
    iterate 2 (walk_at "isi"; walk_at "rd")
    exact q
theorem ok_law_splice_same (T : Txt K mg) : FnOk P w K mg base CX0 2 T.a_law_splice_same T.d_law_splice_same ["_law_told", "_law_due"] spSpS := by
  refine T.F_law_splice_same.ok sc_law_splice_same (fun vs H Q E h => ?_) (fun cdv A outer s H vs Q E hr h => ?_)
  · obtain ⟨v, u, x, rfl, _⟩ := h
    rfl
  · obtain ⟨v, u, x, rfl, ⟨p, rfl, hp⟩, ⟨p2, rfl, hp2⟩, q⟩ := h
    refine ⟨_, (pss_cons (ps_if (PW.pt (pw_or (pt_not (pt_val (pe_callB call_isi (by rfl) T.n_isinstance (by decide +kernel) (pa_cons (pv 0) (pa_cons (pe_bltn (v := .ty "tuple") (by rfl) T.n_tuple (by decide +kernel) rfl) pa_nil))))) (pw_or1 (pt_cmpR (op_neU hr.units) (pe_callB call_lenU (by rfl) T.n_len (by decide +kernel) (pa_cons (pv 0) pa_nil)) pe_int (nomark _))))) (pss_one (ps_ret pe_bl)) pss_nil)
        (pss_cons (ps_if (PW.pt (pw_or (pt_not (pt_val (pe_call (ok_law_number T) hr (by rfl) T.g_law_number T.F_law_number.kp T.b_law_number .nil pass0 (pa_cons (pe_ix ix_seq (pv 0) pe_int (fun _ _ => rfl)) pa_nil)))) (pw_or (pt_not (pt_val (pe_call (ok_law_number T) hr (by rfl) T.g_law_number T.F_law_number.kp T.b_law_number .nil pass0 (pa_cons (pe_ix ix_seq (pv 0) pe_int (fun _ _ => rfl)) pa_nil)))) (pw_or1 (pt_not (pt_val (pe_callB call_isi (by rfl) T.n_isinstance (by decide +kernel) (pa_cons (pe_ix ix_seq (pv 0) pe_int (fun _ _ => rfl)) (pa_cons (pe_bltn (v := .ty "str") (by rfl) T.n_str (by decide +kernel) rfl) pa_nil))))))))) (pss_one (ps_ret pe_bl)) pss_nil)
        (pss_one (ps_ret (pe_and (pe_cmpR (op_eqU hr.units) (pe_ix ix_seq (pv 0) pe_int (fun _ _ => rfl)) (pe_ix ix_seq (pv 1) pe_int (fun _ _ => rfl)) (nomark _)) (pe_and (pe_cmpR (op_eqU hr.units) (pe_ix ix_seq (pv 0) pe_int (fun _ _ => rfl)) (pe_ix ix_seq (pv 1) pe_int (fun _ _ => rfl)) (nomark _)) (pe_one (pe_cmpR (op_eqU hr.units) (pe_ix ix_seq (pv 0) pe_int (fun _ _ => rfl)) (pe_ix ix_seq (pv 1) pe_int (fun _ _ => rfl)) (nomark _))))))))), ?_⟩
    have ty : TyX K H (.ref p) (.type "tuple") := .base (.tup hp)
    have ty3 : TyX K H (.str x.2.2) (.type "str") := .base (.str x.2.2)
    walk_at "rd"
    walk_at "isi"
    walk_at "rd"
    refine r_lenT (sqT hp) ?_
    walk_at "rd"
    refine r_ixT (sqT hp) (atI_nat (j := 0) rfl) ?_
    walk_at "rd"
    refine ⟨_, rfl, ?_⟩
    walk_at "rd"
    refine r_ixT (sqT hp) (atI_nat (j := 1) rfl) ?_
    walk_at "rd"
    refine ⟨_, rfl, ?_⟩
    walk_at "rd"
    refine r_ixT (sqT hp) (atI_nat (j := 2) rfl) ?_
    walk_at "rd"
    walk_at "isi"
    walk_at "rd"
    refine r_ixT (sqT hp) (atI_nat (j := 0) rfl) ?_
    walk_at "rd"
    refine r_ixT (sqT hp2) (atI_nat (j := 0) rfl) ?_
    walk_at "rd"
    refine r_ite (fun _ => ?_) (fun c => absurd rfl c)
    walk_at "rd"
    refine r_ixT (sqT hp) (atI_nat (j := 1) rfl) ?_
    walk_at "rd"
    refine r_ixT (sqT hp2) (atI_nat (j := 1) rfl) ?_
    walk_at "rd"
    refine r_ite (fun _ => ?_) (fun c => absurd rfl c)
    walk_at "rd"
    refine r_ixT (sqT hp) (atI_nat (j := 2) rfl) ?_
    walk_at "rd"
    refine r_ixT (sqT hp2) (atI_nat (j := 2) rfl) ?_
    walk_at "rd"
    rw [show decide (V.str x.2.2 = V.str x.2.2) = true from decide_eq_true rfl]
    exact q
theorem ok_law_same (T : Txt K mg) : FnOk P w K mg base CX0 3 T.a_law_same T.d_law_same ["_law_told", "_law_due"] (spLS K) := by
  refine T.F_law_same.ok sc_law_same (fun vs H Q E h => ?_) (fun cdv A outer s H vs Q E hr h => ?_)
  · obtain ⟨v, u, _, _, _, rfl, _⟩ := h
    rfl
  · obtain ⟨v, u, S, C, o, rfl, ⟨p, va, vb, rfl, hp, hva, hvb⟩, ⟨p2, a2, b2, sa, rfl, hp2, ha2, hsa, hb2⟩, sl, cl, q⟩ := h
    refine ⟨_, (pss_cons (ps_if (PW.pt (pw_or (pt_not (pt_val (pe_callB call_isi (by rfl) T.n_isinstance (by decide +kernel) (pa_cons (pv 0) (pa_cons (pe_bltn (v := .ty "tuple") (by rfl) T.n_tuple (by decide +kernel) rfl) pa_nil))))) (pw_or1 (pt_cmpR (op_neU hr.units) (pe_callB call_lenU (by rfl) T.n_len (by decide +kernel) (pa_cons (pv 0) pa_nil)) pe_int (nomark _))))) (pss_one (ps_ret pe_bl)) pss_nil)
        (pss_cons (ps_if (PW.pt (pw_or (pt_not (pt_val (pe_callB call_isi (by rfl) T.n_isinstance (by decide +kernel) (pa_cons (pe_ix ix_seq (pv 0) pe_int (fun _ _ => rfl)) (pa_cons (pe_bltn (v := .ty "tuple") (by rfl) T.n_tuple (by decide +kernel) rfl) pa_nil))))) (pw_or1 (pt_cmpR (op_neU hr.units) (pe_callB call_lenU (by rfl) T.n_len (by decide +kernel) (pa_cons (pe_ix ix_seq (pv 0) pe_int (fun _ _ => rfl)) pa_nil)) (pe_callB call_lenU (by rfl) T.n_len (by decide +kernel) (pa_cons (pe_ix ix_seq (pv 1) pe_int (fun _ _ => rfl)) pa_nil)) (nomark _))))) (pss_one (ps_ret pe_bl)) pss_nil)
        (pss_cons (ps_for PassesOwn.never rfl (pi_range1 (by rfl) T.n_range (pa_cons (pe_callB call_lenU (by rfl) T.n_len (by decide +kernel) (pa_cons (pe_ix ix_seq (pv 1) pe_int (fun _ _ => rfl)) pa_nil)) pa_nil)) (pg_name (i := 2) sc_law_same.nd rfl (Or.inl rfl)) (pss_one (ps_if (pt_not (pt_val (pe_call (ok_law_splice_same T) hr (by rfl) T.g_law_splice_same T.F_law_splice_same.kp T.b_law_splice_same .nil pass0 (pa_cons (pe_ix ix_seq (pe_ix ix_seq (pv 0) pe_int (fun _ _ => rfl)) (pv 2) (fun _ _ => rfl)) (pa_cons (pe_ix ix_seq (pe_ix ix_seq (pv 1) pe_int (fun _ _ => rfl)) (pv 2) (fun _ _ => rfl)) pa_nil))))) (pss_one (ps_ret pe_bl)) pss_nil)))
        (pss_cons (ps_if (PW.pt (pw_or (pt_not (pt_val (pe_callB call_isi (by rfl) T.n_isinstance (by decide +kernel) (pa_cons (pe_ix ix_seq (pv 0) pe_int (fun _ _ => rfl)) (pa_cons (pe_bltn (v := .ty "tuple") (by rfl) T.n_tuple (by decide +kernel) rfl) pa_nil))))) (pw_or1 (pt_cmpR (op_neU hr.units) (pe_callB call_lenU (by rfl) T.n_len (by decide +kernel) (pa_cons (pe_ix ix_seq (pv 0) pe_int (fun _ _ => rfl)) pa_nil)) (pe_callB call_lenU (by rfl) T.n_len (by decide +kernel) (pa_cons (pe_ix ix_seq (pv 1) pe_int (fun _ _ => rfl)) pa_nil)) (nomark _))))) (pss_one (ps_ret pe_bl)) pss_nil)
        (pss_cons (ps_for PassesOwn.never rfl (pi_range1 (by rfl) T.n_range (pa_cons (pe_callB call_lenU (by rfl) T.n_len (by decide +kernel) (pa_cons (pe_ix ix_seq (pv 1) pe_int (fun _ _ => rfl)) pa_nil)) pa_nil)) (pg_name (i := 2) sc_law_same.nd rfl (Or.inl rfl)) (pss_one (ps_if (PW.pt (pw_or (pt_not (pt_val (pe_call (ok_law_number T) (hr.mono (by decide)) (by rfl) T.g_law_number T.F_law_number.kp T.b_law_number .nil pass0 (pa_cons (pe_ix ix_seq (pe_ix ix_seq (pv 0) pe_int (fun _ _ => rfl)) (pv 2) (fun _ _ => rfl)) pa_nil)))) (pw_or1 (pt_cmpR (op_neU hr.units) (pe_ix ix_seq (pe_ix ix_seq (pv 0) pe_int (fun _ _ => rfl)) (pv 2) (fun _ _ => rfl)) (pe_ix ix_seq (pe_ix ix_seq (pv 1) pe_int (fun _ _ => rfl)) (pv 2) (fun _ _ => rfl)) (nomark _))))) (pss_one (ps_ret pe_bl)) pss_nil)))
        (pss_one (ps_ret pe_bl))))))), ?_⟩
    have ty : TyX K H (.ref p) (.type "tuple") := .base (.tup hp)
    have tya := tyTV hva
    have tyb := tyTV hvb
    obtain ⟨pa, xa, rfl, hpa, hxa⟩ := id hva
    obtain ⟨pb, xb, rfl, hpb, hxb⟩ := id hvb
    have la := hxa.len
    have lb := hxb.len
    have lsa := hsa.len
    walk_at "rd"
    walk_at "isi"
    walk_at "rd"
    refine r_lenT (sqT hp) ?_
    walk_at "rd"
    refine r_ixT (sqT hp) (atI_nat (j := 0) rfl) ?_
    walk_at "rd"
    walk_at "isi"
    walk_at "rd"
    refine r_ixT (sqT hp) (atI_nat (j := 0) rfl) ?_
    walk_at "rd"
    refine r_lenT hpa.sq ?_
    walk_at "rd"
    refine r_ixL (sqL hp2) (atI_nat (j := 0) rfl) ?_
    walk_at "rd"
    refine r_lenL (sqL ha2) ?_
    walk_at "rd"
    refine r_iteN (fun hn => absurd (by rw [la, lsa]) hn) (fun _ => ?_)
    walk_at "rd"
    refine r_ixL (sqL hp2) (atI_nat (j := 0) rfl) ?_
    walk_at "rd"
    refine r_lenL (sqL ha2) ?_
    walk_at "rd"
    refine l_R (by omega) (by omega) (fun i σ H' => ∃ y, σ = [some (.ref p), some (.ref p2), y] ∧ H' = H) ⟨none, rfl, rfl⟩ (fun i σ H' hi' hP => ?_) (fun σ H' hP => ?_)
    · obtain ⟨y, rfl, rfl⟩ := hP
      obtain ⟨x, hx⟩ : ∃ x, S[i]? = some x := ⟨_, List.getElem?_eq_getElem (by omega)⟩
      obtain ⟨u1, hu1, r1⟩ := hxa.get' hx
      obtain ⟨u2, hu2, r2⟩ := hsa.get' hx
      walk_at "rd"
      refine r_ixT (sqT hp) (atI_nat (j := 0) rfl) ?_
      walk_at "rd"
      refine r_ixT hpa.sq (atI_nat hu1) ?_
      walk_at "rd"
      refine r_ixL (sqL hp2) (atI_nat (j := 0) rfl) ?_
      walk_at "rd"
      refine r_ixL (sqL ha2) (atI_nat hu2) ?_
      walk_at "rd"
      refine ⟨u1, u2, x, rfl, r1, r2, ?_⟩
      walk_at "rd"
      exact ⟨_, rfl, rfl⟩
    · obtain ⟨y, rfl, rfl⟩ := hP
      walk_at "rd"
      refine r_ixT (sqT hp) (atI_nat (j := 1) rfl) ?_
      walk_at "rd"
      walk_at "isi"
      walk_at "rd"
      refine r_ixT (sqT hp) (atI_nat (j := 1) rfl) ?_
      walk_at "rd"
      refine r_lenT hpb.sq ?_
      walk_at "rd"
      refine r_ixL (sqL hp2) (atI_nat (j := 1) rfl) ?_
      walk_at "rd"
      refine r_lenL (sqL hb2) ?_
      walk_at "rd"
      refine r_iteN (fun hn => absurd (by rw [lb, List.length_map]) hn) (fun _ => ?_)
      walk_at "rd"
      refine r_ixL (sqL hp2) (atI_nat (j := 1) rfl) ?_
      walk_at "rd"
      refine r_lenL (sqL hb2) ?_
      rw [List.length_map]
      walk_at "rd"
      refine l_R (by omega) (by omega) (fun i σ H'' => ∃ y, σ = [some (.ref p), some (.ref p2), y] ∧ H'' = H') ⟨_, rfl, rfl⟩ (fun i σ H'' hi' hP => ?_) (fun σ H'' hP => ?_)
      · obtain ⟨y, rfl, rfl⟩ := hP
        obtain ⟨x, hx⟩ : ∃ x, C[i]? = some x := ⟨_, List.getElem?_eq_getElem (by omega)⟩
        obtain ⟨u1, hu1, rfl⟩ := hxb.get' hx
        have hc : (C.map V.int)[i]? = some (V.int x) := by rw [List.getElem?_map, hx]; rfl
        walk_at "rd"
        refine r_ixT (sqT hp) (atI_nat (j := 1) rfl) ?_
        walk_at "rd"
        refine r_ixT hpb.sq (atI_nat hu1) ?_
        walk_at "rd"
        refine ⟨_, rfl, ?_⟩
        walk_at "rd"
        refine r_ixT (sqT hp) (atI_nat (j := 1) rfl) ?_
        walk_at "rd"
        refine r_ixT hpb.sq (atI_nat hu1) ?_
        walk_at "rd"
        refine r_ixL (sqL hp2) (atI_nat (j := 1) rfl) ?_
        walk_at "rd"
        refine r_ixL (sqL hb2) (atI_nat hc) ?_
        walk_at "rd"
        refine r_iteN (fun hn => absurd rfl hn) (fun _ => ?_)
        walk_at "rd"
        exact ⟨_, rfl, rfl⟩
      · obtain ⟨y, rfl, rfl⟩ := hP
        walk_at "rd"
        exact q
theorem str_eq {a b : Str} (h : cs a = cs b) : a = b := PySem.W.str_of_cps h
theorem ok_law_done (T : Txt K mg) : FnOk P w K mg base CX0 6 T.a_law_done T.d_law_done ["_law_body", "_law_told", "_law_due"] (spLD K) := by
  refine T.F_law_done.ok sc_law_done (fun vs H Q E h => ?_) (fun cdv A outer s H vs Q E hr h => ?_)
  · obtain ⟨z, v, u, _, _, _, rfl, _⟩ := h
    rfl
  · obtain ⟨z, v, u, S, C, o, rfl, hE, hD, hR, cl, hz, ho, q⟩ := h
    refine ⟨_, (pss_cons (ps_if (pt_not (pt_val (pe_call (ok_law_same T) (hr.mono (by decide)) (by rfl) T.g_law_same T.F_law_same.kp T.b_law_same .nil pass0 (pa_cons (pv 1) (pa_cons (pv 2) pa_nil))))) (pss_one (ps_ret pe_bl)) pss_nil)
        (pss_cons (ps_if (pt_cmpR (op_eqU hr.units) (pe_callB call_lenU (by rfl) T.n_len (by decide +kernel) (pa_cons (pe_ix ix_seq (pv 2) pe_int (fun _ _ => rfl)) pa_nil)) pe_int (nomark _)) (pss_one (ps_ret (pe_cmpR (op_eqU hr.units) (pv 0) (pe_ix ix_seq (pv 2) pe_int (fun _ _ => rfl)) (nomark _)))) pss_nil)
        (pss_cons (ps_if (pt_cmpR op_isnotU (pe_call (ok_check_round T) (hr.mono (by decide)) (by rfl) T.g_check_round T.F_check_round.kp T.b_check_round .nil pass0 (pa_cons (pe_callB call_lenU (by rfl) T.n_len (by decide +kernel) (pa_cons (pv 0) pa_nil)) (pa_cons (pe_ix ix_seq (pv 1) pe_int (fun _ _ => rfl)) pa_nil))) pe_non (nomark _)) (pss_one (ps_ret pe_bl)) pss_nil)
        (pss_cons (ps_set (i := 3) sc_law_done.nd rfl (Or.inl rfl) (pe_call (ok_spliced T) hr (by rfl) T.g_spliced T.F_spliced.kp T.b_spliced .nil pass0 (pa_cons (pv 0) (pa_cons (pe_ix ix_seq (pv 1) pe_int (fun _ _ => rfl)) pa_nil))))
        (pss_one (ps_ret (pe_and (pe_callB call_isi (by rfl) T.n_isinstance (by decide +kernel) (pa_cons (pv 3) (pa_cons (pe_bltn (v := .ty "str") (by rfl) T.n_str (by decide +kernel) rfl) pa_nil))) (pe_one (pe_cmpR (op_eqU hr.units) (pv 3) (pe_ix ix_seq (pv 2) pe_int (fun _ _ => rfl)) (nomark _)))))))))), ?_⟩
    have zl : z.length ≤ sizeLine := by rw [sizeLine_eq]; omega
    have sl : S.length ≤ 1000 := by
      by_cases e : S = []
      · rw [e]; exact Nat.zero_le _
      · exact (hR e).len
    obtain ⟨p, va, vb, rfl, hp, hva, hvb⟩ := id hE
    obtain ⟨p2, a2, b2, sa, rfl, hp2, ha2, hsa, hb2⟩ := id hD
    have lsa := hsa.len
    walk_at "rd"
    refine ⟨_, _, S, C, o, rfl, hE, hD, sl, cl, ?_⟩
    walk_at "rd"
    refine r_ixL (sqL hp2) (atI_nat (j := 0) rfl) ?_
    walk_at "rd"
    refine r_lenL (sqL ha2) ?_
    walk_at "rd"
    refine r_ite (fun c => ?_) (fun c => ?_)
    · have c := V.int.inj c
      have e : S = [] := List.length_eq_zero_iff.mp (by omega)
      walk_at "rd"
      refine r_ixL (sqL hp2) (atI_nat (j := 2) rfl) ?_
      walk_at "rd"
      have eo : z = o := str_eq (by rw [ho, e]; rfl)
      rw [eo, show decide (V.str o = V.str o) = true from decide_eq_true rfl]
      exact q H (Same.refl _)
    · have ne : S ≠ [] := fun e => c (by rw [lsa, e]; rfl)
      walk_at "rd"
      refine r_lenS zl ?_
      walk_at "rd"
      refine r_ixT (sqT hp) (atI_nat (j := 0) rfl) ?_
      walk_at "rd"
      refine ⟨_, _, S, rfl, hva, hR ne, fun H1 e1 => ?_⟩
      walk_at "rd"
      refine r_ixT (sqT (e1 _ _ hp)) (atI_nat (j := 0) rfl) ?_
      walk_at "rd"
      refine ⟨z, _, S, rfl, imm (.ex e1) hva, hR ne, hz, fun o2 H2 e2 ho2 => ?_⟩
      have eo : o2 = o := str_eq (by rw [ho, ho2])
      have ty : TyX K H2 (.str o2) (.type "str") := .base (.str o2)
      walk_at "rd"
      walk_at "isi"
      walk_at "rd"
      refine r_ixL (sqL (e2 _ _ (e1 _ _ hp2))) (atI_nat (j := 2) rfl) ?_
      walk_at "rd"
      rw [eo, show decide (V.str o = V.str o) = true from decide_eq_true rfl]
      exact q H2 (e1.trans e2)
/-! right rounds -/
theorem put_rrd {z t : Str} {T : List Iv} (ho : Ord z.length T) (ht : InA t) (tl : t.length ≤ 1000) (hl : T.length ≤ 1000) (ne : spls (decide (t ≠ "")) t T ≠ []) : Rrd z.length (spls (decide (t ≠ "")) t T) := by
  have pw : (spls (decide (t ≠ "")) t T).Pairwise fun a b => a.1 < b.1 ∧ a.1 + a.2.1 ≤ b.1 := by
    unfold spls
    rw [List.pairwise_filterMap]
    refine ho.pw.imp fun {a b} h x hx y hy => ?_
    have la := lo_hi a
    split at hx
    · split at hy
      · cases hx
        cases hy
        show Q46.lo a < Q46.lo b ∧ Q46.lo a + (hi a - Q46.lo a) ≤ Q46.lo b
        rename_i c1 c2
        omega
      · cases hy
    · cases hx
  refine ⟨ne, fun x hx => ?_, fun i a b ha hb => ?_, Nat.le_trans (List.length_filterMap_le _ _) hl⟩
  · unfold spls at hx
    obtain ⟨a, ha, h⟩ := List.mem_filterMap.mp hx
    have pa := ho.pos a ha
    have la := lo_hi a
    split at h
    · rename_i c
      cases h
      refine ⟨⟨pa.1, by show 0 ≤ hi a - Q46.lo a; omega, ht, tl, ?_⟩, by show Q46.lo a + (hi a - Q46.lo a) ≤ _; omega⟩
      rw [Bool.or_eq_true, decide_eq_true_iff, decide_eq_true_iff] at c
      rcases c with c | c
      · exact .inl (by show 0 < hi a - Q46.lo a; omega)
      · exact .inr c
    · cases h
  · obtain ⟨ia, ea⟩ := List.getElem?_eq_some_iff.mp ha
    obtain ⟨ib, eb⟩ := List.getElem?_eq_some_iff.mp hb
    have := List.pairwise_iff_getElem.mp pw i (i + 1) ia ib (by omega)
    rw [ea, eb] at this
    exact this
theorem cut_rrd {z : Str} {J : List Iv} (h : Pk.Chn J) (hb : ∀ r ∈ J, (0 : Int) ≤ r.1 ∧ r.2 ≤ z.length) (hl : J.length ≤ 1000) (ne : cs3 ("" : Str) J ≠ []) : Rrd z.length (cs3 ("" : Str) J) := by
  have pw : (cs3 ("" : Str) J).Pairwise fun a b => a.1 < b.1 ∧ a.1 + a.2.1 ≤ b.1 := by
    unfold cs3
    rw [List.pairwise_map]
    refine List.Pairwise.imp_of_mem (fun {a b} ha _ g => ?_) h.2
    have := h.1 a ha
    show a.1 < b.1 ∧ a.1 + (a.2 - a.1) ≤ b.1
    omega
  refine ⟨ne, fun x hx => ?_, fun i a b ha hb => ?_, by unfold cs3; rw [List.length_map]; exact hl⟩
  · unfold cs3 at hx
    obtain ⟨r, hr, rfl⟩ := List.mem_map.mp hx
    have := hb r hr
    have := h.1 r hr
    exact ⟨⟨by show 0 ≤ r.1; omega, by show 0 ≤ r.2 - r.1; omega, (fun c hc => nomatch hc), Nat.zero_le _, .inl (by show 0 < r.2 - r.1; omega)⟩, by show r.1 + (r.2 - r.1) ≤ _; omega⟩
  · obtain ⟨ia, ea⟩ := List.getElem?_eq_some_iff.mp ha
    obtain ⟨ib, eb⟩ := List.getElem?_eq_some_iff.mp hb
    have := List.pairwise_iff_getElem.mp pw i (i + 1) ia ib (by omega)
    rw [ea, eb] at this
    exact this
end
end K46

namespace K46
open PySem PySem.Spec PyProof.Rows L2 Dk Q46
/-- one step of a reading -/
local macro_rules | `(tactic| walk_at "rd1") => `(tactic| first
  | ((with_reducible refine r_var (v := ?rv) ?rh ?_); (case rh => rfl))
  | with_reducible refine r_c ?_
  | with_reducible refine r_seq ?_
  | with_reducible refine r_asg ?_
  | with_reducible refine r_par ?_
  | with_reducible refine r_gname ?_
  | with_reducible refine r_op ?_
  | with_reducible refine r_forLo ?_
  | with_reducible refine r_forTo ?_
  | with_reducible refine r_forSo ?_
  | with_reducible refine r_forRo ?_
  | with_reducible refine r_forRvo ?_
  | with_reducible refine r_forZo ?_
  | with_reducible refine r_revS ?_
  | with_reducible refine r_lcRo ?_
  | with_reducible refine r_lcLo ?_
  | with_reducible refine r_yes ?_
  | with_reducible refine r_callK0 ?_
  | with_reducible refine r_break ?_
  | with_reducible refine r_continue ?_
  | with_reducible refine r_forR2o ?_
  | with_reducible refine r_forEo ?_
  | with_reducible refine r_forESo ?_
  | with_reducible refine r_xfo ?_
  | with_reducible refine r_noP ?_
  | with_reducible refine r_part ?_
  | with_reducible refine r_pI ?_
  | with_reducible refine r_gcons ?_
  | with_reducible refine r_gnil ?_
  | with_reducible refine r_mkO ?_
  | with_reducible refine r_un ?_
  | with_reducible refine r_addI ?_
  | with_reducible refine r_I0 ?_
  | with_reducible refine r_U ?_
  | with_reducible refine r_cons ?_
  | with_reducible refine r_nil ?_
  | with_reducible refine r_CB ?_
  | with_reducible refine r_call ?_
  | with_reducible refine r_callS ?_
  | with_reducible refine r_int ?_
  | with_reducible refine r_max ?_
  | with_reducible refine r_min ?_
  | with_reducible refine r_test ?_
  | with_reducible refine r_B ?_
  | with_reducible refine r_blv ?_
  | with_reducible refine r_and ?_
  | with_reducible refine r_or ?_
  | with_reducible refine r_not ?_
  | with_reducible refine r_andV ?_
  | with_reducible refine r_orV ?_
  | with_reducible refine r_notV ?_
  | with_reducible refine r_ifE ?_
  | with_reducible refine r_ifS ?_
  | with_reducible refine r_ret ?_
  | with_reducible refine r_retN ?_
  | with_reducible refine r_drop ?_
  | with_reducible refine r_next ?_
  | with_reducible refine r_sl ?_
  | with_reducible refine r_gsub ?_
  | with_reducible refine r_bm ?_
  | with_reducible refine r_bm0 ?_
  | with_reducible refine r_tup ?_
  | with_reducible refine r_lst ?_
  | with_reducible refine r_isN ?_
  | with_reducible refine r_notN ?_
  | with_reducible refine r_chain ?_
  | with_reducible refine r_callK ?_
  | with_reducible refine r_isB ?_
  | with_reducible refine r_lcEio ?_
  | with_reducible refine r_forEi ?_
  | with_reducible refine r_lcTo ?_
  | with_reducible refine r_lcSo ?_
  | with_reducible refine r_m1 ?_
  | with_reducible refine r_dget ?_
  | with_reducible refine r_din ?_
  | with_reducible refine r_dnotin ?_
  | with_reducible refine r_starC ?_
  | with_reducible refine r_callKS ?_
  | with_reducible refine r_itt ?_
  | with_reducible refine r_iff ?_
  | with_reducible refine r_ittN ?_
  | with_reducible refine r_iffN ?_
  | ((with_reducible refine r_ittD ?rh ?_); (case rh => rfl))
  | ((with_reducible refine r_iffD ?rh ?_); (case rh => rfl))
  | ((with_reducible refine r_modP ?rh ?_); (case rh => decide))
  | ((with_reducible refine r_eq ?rh ?_); (case rh => rfl))
  | ((with_reducible refine r_eqP ?rh ?_); (case rh => rfl))
  | ((with_reducible refine r_ne ?rh ?_); (case rh => rfl)))
local macro_rules | `(tactic| walk_at "rd") => `(tactic| repeat walk_at "rd1")
local macro_rules | `(tactic| walk_at "isi") => `(tactic| first | refine r_isi (b := true) (by assumption) (by decide +kernel) ?_ | refine r_isi (b := false) (by assumption) (by decide +kernel) ?_)
local macro_rules | `(tactic| walk_at "rs1") => `(tactic| first
  | with_reducible refine r_seq ?_
  | with_reducible refine r_asg ?_
  | with_reducible refine r_gname ?_
  | with_reducible refine r_ret ?_)
local macro_rules | `(tactic| walk_at "rs") => `(tactic| repeat walk_at "rs1")

def sp_law (K : PySem.W.Frag) : Sp := fun vs H Q _ => ∃ (a : Addr) (ns : List Int), vs = [.ref a] ∧ SqL K H a (ns.map V.int) ∧ ns.length ≤ 63 ∧ ∀ H', Q (.bl true) H'
theorem six_lit {H : Hp} {a : Addr} {b c d e f g : Nat} (h : H a = some (.lst [.int (b : Nat), .int (c : Nat), .int (d : Nat), .int (e : Nat), .int (f : Nat), .int (g : Nat)])) : Six H a :=
  ⟨[(b : Int), c, d, e, f, g], h, rfl, fun n hn => by
    simp only [List.mem_cons, List.not_mem_nil, or_false] at hn
    omega⟩
theorem Six.dr {b : Box} {H H' : Hp} {a : Addr} (d : Drw b H H') (na : ¬ b.A a) (h : Six H a) : Six H' a := h.imp fun ns z => ⟨d.hh _ _ na z.1, z.2⟩
theorem jn_in {N : Int} {b : Bool} {most : Int} {T m : List Iv} (m0 : 0 ≤ most) (ho : Ord N T) (pw : m.Pairwise Pk.Lx) (pm : m.Perm ((T.map (fB N most b)).filter ltIv)) : Pk.Chn (jn m) ∧ ∀ r ∈ jn m, (0 : Int) ≤ r.1 ∧ r.2 ≤ N := by
  have ne : ∀ z ∈ m, z.1 < z.2 := fun r hr => by
    have := (List.mem_filter.mp (pm.mem_iff.mp hr)).2
    unfold ltIv at this
    exact of_decide_eq_true this
  obtain ⟨j1, j2, j3⟩ := jn_ok ne pw
  have cb : ∀ x : Int, Pk.cell (jn m) x → 0 ≤ x ∧ x < N := fun x h => by
    obtain ⟨r, hr, h1⟩ := (j2 x).mp h
    obtain ⟨a, ha, rfl⟩ := List.mem_map.mp (List.mem_filter.mp (pm.mem_iff.mp hr)).1
    have := fB_in (N := N) (b := b) m0 (ho.pos a ha)
    omega
  refine ⟨j1, fun r hr => ?_⟩
  have lt := j1.1 r hr
  have c1 := cb r.1 ⟨r, hr, Int.le_refl _, lt⟩
  have c2 := cb (r.2 - 1) ⟨r, hr, by omega, by omega⟩
  omega
section
variable {P : Program} {w : World} {K : PySem.W.Frag} {mg : Str → Option Value} {base : Heap}
theorem ss_len {l m : List Int} (h : SS l m) (n : Nat) (hl : l.length ≤ n) : m.length ≤ n := by
  have hn : m.Nodup := h.1.imp fun {a b} g => by omega
  exact Nat.le_trans (hn.length_le_of_subset fun x hx => (h.2 x).mp hx) hl
theorem flow_tk {f p : Addr} {H H' : Hp} (st : (flow ML f p).B H) (d : Drw (flow ML f p) H H') : Tk H H' := fun q xs h => d.hh _ _ (fun z => by
  obtain ⟨_, zz, kk, nn, q1, q2, _⟩ := st
  rcases z with z | z
  · rw [z, q1] at h; cases h
  · rw [z, q2] at h; cases h) h
theorem lit_at {H : Hp} {xs : List V} {ns : List Nat} (e : xs = ns.map fun x : Nat => V.int x) {v n : Nat} (hv : (v : Int) < (n : Nat)) (hl : ns.length = n) : ∃ x, atI xs (v : Nat) = some (V.int (x : Nat)) ∧ x ∈ ns := by
  have hv' : v < ns.length := by omega
  refine ⟨ns[v], ?_, List.getElem_mem _⟩
  rw [e]
  exact atI_nat (by rw [List.getElem?_map, List.getElem?_eq_getElem hv']; rfl)
set_option maxHeartbeats 16000000 in
theorem ok_law (T : Txt K mg) : FnOk P w K mg base CX0 7 T.a_law T.d_law ["_law_script"] (sp_law K) := by
  refine T.F_law.ok sc_law (fun vs H Q E h => ?_) (fun cdv A outer s H vs Q E hr h => ?_)
  · obtain ⟨a, ns, rfl, _⟩ := h
    rfl
  · obtain ⟨a0, ns, rfl, hS, hns, q⟩ := h
    refine ⟨_, (pss_cons (ps_set (i := 1) sc_law.nd rfl (Or.inl rfl) (pe_call (ok_law_draws T) (hr.mono (by decide)) (by rfl) T.g_law_draws T.F_law_draws.kp T.b_law_draws .nil pass0 (pa_cons (pv 0) pa_nil)))
        (pss_cons (ps_set (i := 2) sc_law.nd rfl (Or.inl rfl) (pe_call (ok_law_take T) (hr.mono (by decide)) (by rfl) T.g_law_take T.F_law_take.kp T.b_law_take .nil pass0 (pa_cons (pv 1) (pa_cons pe_int pa_nil))))
        (pss_cons (ps_set (i := 3) sc_law.nd rfl (Or.inl rfl) (pe_call (ok_law_take T) (hr.mono (by decide)) (by rfl) T.g_law_take T.F_law_take.kp T.b_law_take .nil pass0 (pa_cons (pv 1) (pa_cons pe_int pa_nil))))
        (pss_cons (ps_set (i := 4) sc_law.nd rfl (Or.inl rfl) (pe_lst (pa_cons pe_int (pa_cons pe_int (pa_cons pe_int (pa_cons pe_int (pa_cons pe_int (pa_cons pe_int pa_nil))))))))
        (pss_cons (ps_set (i := 5) sc_law.nd rfl (Or.inl rfl) (pe_lst (pa_cons pe_int (pa_cons pe_int (pa_cons pe_int (pa_cons pe_int (pa_cons pe_int (pa_cons pe_int pa_nil))))))))
        (pss_cons (ps_set (i := 6) sc_law.nd rfl (Or.inl rfl) (pe_call (ok_law_take T) (hr.mono (by decide)) (by rfl) T.g_law_take T.F_law_take.kp T.b_law_take .nil pass0 (pa_cons (pv 1) (pa_cons pe_int pa_nil))))
        (Evl.pss_cut (ps_if (pt_cmpR (op_eqU hr.units) (pv 6) pe_int (nomark _)) (pss_cons (ps_set (i := 2) sc_law.nd rfl (Or.inl rfl) (pe_op op_addU pe_int (pe_call (ok_law_take T) (hr.mono (by decide)) (by rfl) T.g_law_take T.F_law_take.kp T.b_law_take .nil pass0 (pa_cons (pv 1) (pa_cons pe_int pa_nil)))))
        (pss_one (ps_set (i := 3) sc_law.nd rfl (Or.inl rfl) (pe_op op_addU pe_int (pe_call (ok_law_take T) (hr.mono (by decide)) (by rfl) T.g_law_take T.F_law_take.kp T.b_law_take .nil pass0 (pa_cons (pv 1) (pa_cons pe_int pa_nil))))))) pss_nil)
        (Evl.pss_cut (ps_if (pt_cmpR (op_eqU hr.units) (pv 6) pe_int (nomark _)) (pss_cons (ps_set (i := 2) sc_law.nd rfl (Or.inl rfl) (pe_op op_addU pe_int (pe_call (ok_law_take T) (hr.mono (by decide)) (by rfl) T.g_law_take T.F_law_take.kp T.b_law_take .nil pass0 (pa_cons (pv 1) (pa_cons pe_int pa_nil)))))
        (pss_cons (ps_set (i := 3) sc_law.nd rfl (Or.inl rfl) (pe_op op_addU pe_int (pe_call (ok_law_take T) (hr.mono (by decide)) (by rfl) T.g_law_take T.F_law_take.kp T.b_law_take .nil pass0 (pa_cons (pv 1) (pa_cons pe_int pa_nil)))))
        (pss_cons (ps_set (i := 4) sc_law.nd rfl (Or.inl rfl) (pe_lst (pa_cons pe_int (pa_cons pe_int (pa_cons pe_int (pa_cons pe_int (pa_cons pe_int (pa_cons pe_int pa_nil))))))))
        (pss_one (ps_set (i := 5) sc_law.nd rfl (Or.inl rfl) (pe_lst (pa_cons pe_int (pa_cons pe_int (pa_cons pe_int (pa_cons pe_int (pa_cons pe_int (pa_cons pe_int pa_nil)))))))))))) pss_nil)
        (pss_cons (ps_set (i := 7) sc_law.nd rfl (Or.inl rfl) (pe_call (ok_law_text T) (hr.mono (by decide)) (by rfl) T.g_law_text T.F_law_text.kp T.b_law_text .nil pass0 (pa_cons (pv 1) (pa_cons (pv 2) pa_nil))))
        (pss_cons (ps_set (i := 8) sc_law.nd rfl (Or.inl rfl) (pe_call (ok_law_picks T) (hr.mono (by decide)) (by rfl) T.g_law_picks T.F_law_picks.kp T.b_law_picks .nil pass0 (pa_cons (pv 1) (pa_cons (pv 2) (pa_cons (pv 3) (pa_cons (pv 4) (pa_cons (pv 5) pa_nil)))))))
        (pss_cons (ps_set (i := 9) sc_law.nd rfl (Or.inl rfl) (pe_call (ok_law_text T) (hr.mono (by decide)) (by rfl) T.g_law_text T.F_law_text.kp T.b_law_text .nil pass0 (pa_cons (pv 1) (pa_cons (pe_ix ix_seq (pe_lst (pa_cons pe_int (pa_cons pe_int (pa_cons pe_int (pa_cons pe_int (pa_cons pe_int (pa_cons pe_int pa_nil))))))) (pe_call (ok_law_take T) (hr.mono (by decide)) (by rfl) T.g_law_take T.F_law_take.kp T.b_law_take .nil pass0 (pa_cons (pv 1) (pa_cons pe_int pa_nil))) (fun _ _ => rfl)) pa_nil))))
        (pss_cons (ps_set (i := 10) sc_law.nd rfl (Or.inl rfl) (pe_ix ix_seq (pe_lst (pa_cons pe_int (pa_cons pe_int (pa_cons pe_int (pa_cons pe_int (pa_cons pe_int (pa_cons pe_int (pa_cons pe_int (pa_cons (pv 2) (pa_cons (pe_op op_addU (pv 2) pe_int) (pa_cons pe_int pa_nil))))))))))) (pe_call (ok_law_take T) (hr.mono (by decide)) (by rfl) T.g_law_take T.F_law_take.kp T.b_law_take .nil pass0 (pa_cons (pv 1) (pa_cons pe_int pa_nil))) (fun _ _ => rfl)))
        (pss_cons (ps_set (i := 11) sc_law.nd rfl (Or.inl rfl) (pe_call (ok_law_put T) (hr.mono (by decide)) (by rfl) T.g_law_put T.F_law_put.kp T.b_law_put .nil pass0 (pa_cons (pv 7) (pa_cons (pv 8) (pa_cons (pv 9) pa_nil)))))
        (pss_cons (ps_if (pt_not (pt_val (pe_call (ok_law_done T) hr (by rfl) T.g_law_done T.F_law_done.kp T.b_law_done .nil pass0 (pa_cons (pv 7) (pa_cons (pe_call (ok_put_round T) (hr.mono (by decide)) (by rfl) T.g_put_round T.F_put_round.kp T.b_put_round .nil pass0 (pa_cons (pv 8) (pa_cons (pv 9) pa_nil))) (pa_cons (pv 11) pa_nil)))))) (pss_one (ps_ret pe_bl)) pss_nil)
        (pss_cons (ps_if (pt_not (pt_val (pe_call (ok_law_done T) hr (by rfl) T.g_law_done T.F_law_done.kp T.b_law_done .nil pass0 (pa_cons (pv 7) (pa_cons (pe_call (ok_put_round T) (hr.mono (by decide)) (by rfl) T.g_put_round T.F_put_round.kp T.b_put_round .nil pass0 (pa_cons (pv 8) (pa_cons pe_str pa_nil))) (pa_cons (pe_call (ok_law_put T) (hr.mono (by decide)) (by rfl) T.g_law_put T.F_law_put.kp T.b_law_put .nil pass0 (pa_cons (pv 7) (pa_cons (pv 8) (pa_cons pe_str pa_nil)))) pa_nil)))))) (pss_one (ps_ret pe_bl)) pss_nil)
        (pss_cons (ps_set (i := 12) sc_law.nd rfl (Or.inl rfl) (pe_call (ok_law_cut T) (hr.mono (by decide)) (by rfl) T.g_law_cut T.F_law_cut.kp T.b_law_cut .nil pass0 (pa_cons (pv 7) (pa_cons (pv 8) (pa_cons (pv 10) (pa_cons pe_bl pa_nil))))))
        (pss_cons (ps_set (i := 13) sc_law.nd rfl (Or.inl rfl) (pe_call (ok_law_cut T) (hr.mono (by decide)) (by rfl) T.g_law_cut T.F_law_cut.kp T.b_law_cut .nil pass0 (pa_cons (pv 7) (pa_cons (pv 8) (pa_cons (pv 10) (pa_cons pe_bl pa_nil))))))
        (pss_cons (ps_if (pt_not (pt_val (pe_call (ok_law_done T) hr (by rfl) T.g_law_done T.F_law_done.kp T.b_law_done .nil pass0 (pa_cons (pv 7) (pa_cons (pe_call (ok_back_cuts T) (hr.mono (by decide)) (by rfl) T.g_back_cuts T.F_back_cuts.kp T.b_back_cuts .nil pass0 (pa_cons (pv 8) (pa_cons (pv 7) (pa_cons (pv 10) pa_nil)))) (pa_cons (pv 12) pa_nil)))))) (pss_one (ps_ret pe_bl)) pss_nil)
        (pss_cons (ps_if (pt_not (pt_val (pe_call (ok_law_done T) hr (by rfl) T.g_law_done T.F_law_done.kp T.b_law_done .nil pass0 (pa_cons (pv 7) (pa_cons (pe_call (ok_ahead_cuts T) (hr.mono (by decide)) (by rfl) T.g_ahead_cuts T.F_ahead_cuts.kp T.b_ahead_cuts .nil pass0 (pa_cons (pv 8) (pa_cons (pv 7) (pa_cons (pv 10) pa_nil)))) (pa_cons (pv 13) pa_nil)))))) (pss_one (ps_ret pe_bl)) pss_nil)
        (pss_cons (ps_if (pt_not (pt_val (pe_call (ok_law_done T) hr (by rfl) T.g_law_done T.F_law_done.kp T.b_law_done .nil pass0 (pa_cons (pv 7) (pa_cons (pe_call (ok_back_cuts T) (hr.mono (by decide)) (by rfl) T.g_back_cuts T.F_back_cuts.kp T.b_back_cuts .nil pass0 (pa_cons (pv 8) (pa_cons (pv 7) (pa_cons pe_int pa_nil)))) (pa_cons (pe_call (ok_law_cut T) (hr.mono (by decide)) (by rfl) T.g_law_cut T.F_law_cut.kp T.b_law_cut .nil pass0 (pa_cons (pv 7) (pa_cons (pv 8) (pa_cons pe_int (pa_cons pe_bl pa_nil))))) pa_nil)))))) (pss_one (ps_ret pe_bl)) pss_nil)
        (pss_cons (ps_if (pt_not (pt_val (pe_call (ok_law_done T) hr (by rfl) T.g_law_done T.F_law_done.kp T.b_law_done .nil pass0 (pa_cons (pv 7) (pa_cons (pe_callK0 (ok_ahead_cuts T) (hr.mono (by decide)) (by rfl) T.g_ahead_cuts T.F_ahead_cuts.kp T.kb_ahead_cuts_0 pass0 (pk_cons pe_int (pk_cons (pv 8) (pk_cons (pv 7) pk_nil)))) (pa_cons (pe_call (ok_law_cut T) (hr.mono (by decide)) (by rfl) T.g_law_cut T.F_law_cut.kp T.b_law_cut .nil pass0 (pa_cons (pv 7) (pa_cons (pv 8) (pa_cons pe_int (pa_cons pe_bl pa_nil))))) pa_nil)))))) (pss_one (ps_ret pe_bl)) pss_nil)
        (pss_cons (ps_if (pt_not (pt_val (pe_call (ok_law_done T) hr (by rfl) T.g_law_done T.F_law_done.kp T.b_law_done .nil pass0 (pa_cons (pv 7) (pa_cons (pe_callK0 (ok_put_round T) (hr.mono (by decide)) (by rfl) T.g_put_round T.F_put_round.kp T.kb_put_round_0 pass0 (pk_cons (pv 9) (pk_cons (pv 8) pk_nil))) (pa_cons (pv 11) pa_nil)))))) (pss_one (ps_ret pe_bl)) pss_nil)
        (pss_one (ps_ret (pe_call (ok_law_done T) hr (by rfl) T.g_law_done T.F_law_done.kp T.b_law_done .nil pass0 (pa_cons (pv 7) (pa_cons (pe_callK0 (ok_back_cuts T) (hr.mono (by decide)) (by rfl) T.g_back_cuts T.F_back_cuts.kp T.kb_back_cuts_0 pass0 (pk_cons (pv 10) (pk_cons (pv 7) (pk_cons (pv 8) pk_nil)))) (pa_cons (pv 12) pa_nil)))))))))))))))))))))))))))), ?_⟩
    walk_at "rd"
    refine ⟨a0, ns, rfl, hS, hns, fun f p H1 e1 hf hp st1 => ?_⟩
    walk_at "rd"
    refine ⟨f, p, 14, rfl, st1, by decide, by decide, fun n1 H2 hn1 D1 => ?_⟩
    walk_at "rd"
    refine ⟨f, p, 7, rfl, D1.st, by decide, by decide, fun m1 H3 hm1 D2 => ?_⟩
    walk_at "rd"
    refine r_small nsz fun g1 hg1 => ?_
    obtain ⟨H4, k4, e4, h4⟩ := new1 hg1 (.lst [.int 0, .int 0, .int 0, .int 1, .int 2, .int 4])
    rw [← k4]
    have st4 := (flow ML f p).up D2.st e4
    have nag1 := (flow ML f p).fresh D2.st hg1
    walk_at "rd"
    refine r_small nsz fun s1 hs1 => ?_
    obtain ⟨H5, k5, e5, h5⟩ := new1 hs1 (.lst [.int 0, .int 0, .int 1, .int 2, .int 3, .int 5])
    rw [← k5]
    have st5 := (flow ML f p).up st4 e5
    have nas1 := (flow ML f p).fresh st4 hs1
    walk_at "rd"
    refine ⟨f, p, 8, rfl, st5, by decide, by decide, fun kd H6 hkd D6 => ?_⟩
    have sx1 : Six H6 g1 := Six.dr D6 nag1 (six_lit (b := 0) (c := 0) (d := 0) (e := 1) (f := 2) (g := 4) (e5 _ _ h4))
    have sx2 : Six H6 s1 := Six.dr D6 nas1 (six_lit (b := 0) (c := 0) (d := 1) (e := 2) (f := 3) (g := 5) h5)
    walk_at "rd"
    refine ⟨fun σ H' => ∃ (n m : Nat), n ≤ 100 ∧ m ≤ 61 ∧ σ = [some (.ref a0), some (.ref f), some (.int (n : Nat)), some (.int (m : Nat)), some (.ref g1), some (.ref s1), some (.int (kd : Nat)), none, none, none, none, none, none, none] ∧ (flow ML f p).B H' ∧ Six H' g1 ∧ Six H' s1, ?_, ?_⟩
    · walk_at "rd"
      refine r_ite (fun _ => ?_) (fun _ => ?_)
      · walk_at "rd"
        refine ⟨f, p, 70, rfl, D6.st, by decide, by decide, fun n2 H7 hn2 D7 => ?_⟩
        walk_at "rd"
        refine ⟨f, p, 57, rfl, D7.st, by decide, by decide, fun m2 H8 hm2 D8 => ?_⟩
        walk_at "rd"
        exact ⟨30 + n2, 4 + m2, by omega, by omega, by rw [Int.natCast_add, Int.natCast_add]; rfl, D8.st, Six.dr D8 nag1 (Six.dr D7 nag1 sx1), Six.dr D8 nas1 (Six.dr D7 nas1 sx2)⟩
      · walk_at "rd"
        exact ⟨n1, m1, by omega, by omega, rfl, D6.st, sx1, sx2⟩
    rintro σ H7 ⟨n, m, hn, hm, rfl, st7, sx1, sx2⟩
    walk_at "rd"
    refine ⟨fun σ H' => ∃ (n m : Nat) (g s : Addr), n ≤ 160 ∧ m ≤ 101 ∧ σ = [some (.ref a0), some (.ref f), some (.int (n : Nat)), some (.int (m : Nat)), some (.ref g), some (.ref s), some (.int (kd : Nat)), none, none, none, none, none, none, none] ∧ (flow ML f p).B H' ∧ Six H' g ∧ Six H' s ∧ ¬ (flow ML f p).A g ∧ ¬ (flow ML f p).A s, ?_, ?_⟩
    · walk_at "rd"
      refine r_ite (fun _ => ?_) (fun _ => ?_)
      · walk_at "rd"
        refine ⟨f, p, 60, rfl, st7, by decide, by decide, fun n2 H8 hn2 D8 => ?_⟩
        walk_at "rd"
        refine ⟨f, p, 41, rfl, D8.st, by decide, by decide, fun m2 H9 hm2 D9 => ?_⟩
        walk_at "rd"
        refine r_small nsz fun g2 hg2 => ?_
        obtain ⟨H10, k10, e10, h10⟩ := new1 hg2 (.lst [.int 0, .int 1, .int 1, .int 1, .int 1, .int 2])
        rw [← k10]
        have st10 := (flow ML f p).up D9.st e10
        walk_at "rd"
        refine r_small nsz fun s2 hs2 => ?_
        obtain ⟨H11, k11, e11, h11⟩ := new1 hs2 (.lst [.int 0, .int 0, .int 0, .int 0, .int 0, .int 1])
        rw [← k11]
        walk_at "rd"
        exact ⟨99 + n2, 60 + m2, g2, s2, by omega, by omega, by rw [Int.natCast_add, Int.natCast_add]; rfl, (flow ML f p).up st10 e11, six_lit (b := 0) (c := 1) (d := 1) (e := 1) (f := 1) (g := 2) (e11 _ _ h10), six_lit (b := 0) (c := 0) (d := 0) (e := 0) (f := 0) (g := 1) h11, (flow ML f p).fresh D9.st hg2, (flow ML f p).fresh st10 hs2⟩
      · walk_at "rd"
        exact ⟨n, m, g1, s1, by omega, by omega, rfl, st7, sx1, sx2, nag1, nas1⟩
    clear sx1 sx2 hn hm st7 H7 n m
    rintro σ H7 ⟨n, m, g, s2, hn, hm, rfl, st7, sx1, sx2, nag, nas⟩
    walk_at "rd"
    refine ⟨f, p, n, rfl, st7, by omega, fun z H8 D8 hz hzl => ?_⟩
    walk_at "rd"
    refine ⟨f, p, n, m, g, s2, rfl, D8.st, Six.dr D8 nag sx1, Six.dr D8 nas sx2, nag, nas, by omega, fun v Ts H9 D9 hv0 ho hTl => ?_⟩
    walk_at "rd"
    refine r_small nsz fun l1 hl1 => ?_
    obtain ⟨H10, k10, e10, h10⟩ := new1 hl1 (.lst [.int 0, .int 0, .int 1, .int 1, .int 2, .int 4])
    rw [← k10]
    have st10 := (flow ML f p).up D9.st e10
    walk_at "rd"
    refine ⟨f, p, 6, rfl, st10, by decide, by decide, fun v1 H11 hv1 D11 => ?_⟩
    obtain ⟨x1, hx1, hm1⟩ := lit_at (H := H11) (xs := [.int 0, .int 0, .int 1, .int 1, .int 2, .int 4]) (ns := [0, 0, 1, 1, 2, 4]) rfl (n := 6) hv1 rfl
    have hx14 : x1 ≤ 10 := by
      simp only [List.mem_cons, List.not_mem_nil, or_false] at hm1
      omega
    refine r_ixL (sqL (D11.at ((flow ML f p).fresh D9.st hl1) h10)) hx1 ?_
    walk_at "rd"
    refine ⟨f, p, x1, rfl, D11.st, by omega, fun t H12 D12 ht htl => ?_⟩
    walk_at "rd"
    refine r_small nsz fun l2 hl2 => ?_
    obtain ⟨H13, k13, e13, h13⟩ := new1 hl2 (.lst [.int 0, .int 1, .int 1, .int 2, .int 2, .int 3, .int 5, .int (n : Nat), .int ((n : Nat) + 1), .int 4000])
    rw [← k13]
    have st13 := (flow ML f p).up D12.st e13
    walk_at "rd"
    refine ⟨f, p, 10, rfl, st13, by decide, by decide, fun v2 H14 hv2 D14 => ?_⟩
    obtain ⟨ct, hct, _⟩ := lit_at (H := H14) (xs := [.int 0, .int 1, .int 1, .int 2, .int 2, .int 3, .int 5, .int (n : Nat), .int ((n : Nat) + 1), .int 4000]) (ns := [0, 1, 1, 2, 2, 3, 5, n, n + 1, 4000]) rfl (n := 10) hv2 rfl
    refine r_ixL (sqL (D14.at ((flow ML f p).fresh D12.st hl2) h13)) hct ?_
    have tkv : Tk H9 H14 := (((Tk.ex e10).trans (flow_tk st10 D11)).trans (flow_tk D11.st D12)).trans ((Tk.ex e13).trans (flow_tk st13 D14))
    have hv : TupV K PrV H14 v Ts := imm tkv hv0
    have hzN : (z.length : Int) = n := by omega
    rw [← hzN] at ho
    have zl5 : z.length ≤ 500 := by omega
    have Tl2 : Ts.length ≤ 200 := by omega
    have tl10 : t.length ≤ 10 := by omega
    have carl : ∀ k C, SS (cars k Ts) C → C.length ≤ 4000 := fun k C h => ss_len h _ (by unfold cars; rw [List.length_map, List.length_range]; omega)
    have cutl : ∀ J C, SS (cutC J Ts) C → C.length ≤ 4000 := fun J C h => ss_len h _ (by unfold cutC; rw [List.length_map]; omega)
    have rrdP : ∀ t : Str, InA t → t.length ≤ 10 → spls (decide (t ≠ "")) t Ts ≠ [] → Rrd z.length (spls (decide (t ≠ "")) t Ts) := fun t h1 h2 h3 => put_rrd ho h1 (by omega) (by omega) h3
    have rrdC : ∀ (b : Bool) (most : Int) (m : List Iv), 0 ≤ most → m.Pairwise Pk.Lx → m.Perm ((Ts.map (fB z.length most b)).filter ltIv) → cs3 ("" : Str) (jn m) ≠ [] → Rrd z.length (cs3 ("" : Str) (jn m)) := fun b most m h0 pw pm h3 => by
      obtain ⟨j1, j2⟩ := jn_in h0 ho pw pm
      refine cut_rrd j1 j2 ?_ h3
      have a1 := jn_len m
      have a2 := pm.length_eq
      have a3 := List.length_filter_le ltIv (Ts.map (fB z.length most b))
      rw [List.length_map] at a3
      omega
    have tE : InA "" := fun c hc => nomatch hc
    walk_at "rd"
    refine ⟨z, v, Ts, t, rfl, hv, Tl2, ho, zl5, tl10, fun u0 H15 C0 o0 e15 hC0 ho0 hD0 => ?_⟩
    walk_at "rd"
    -- put_round(given, put)
    refine ⟨v, Ts, t, rfl, imm (.ex e15) hv, by omega, by omega, fun u H16 C e16 hC hE => ?_⟩
    obtain rfl := hC.one hC0 (fun _ => Iff.rfl)
    walk_at "rd"
    refine ⟨z, u, u0, _, C, o0, rfl, hE, hD0.up e16, rrdP t ht tl10, carl _ _ hC, by omega, ho0, fun H17 e17 => ?_⟩
    have f17 := (e15.trans e16).trans e17
    walk_at "rd"
    -- put_round(given, '')
    refine ⟨v, Ts, "", rfl, imm (.ex f17) hv, by omega, by decide, fun u H18 C2 e18 hC2 hE2 => ?_⟩
    walk_at "rd"
    refine ⟨z, v, Ts, "", rfl, imm (.ex (f17.trans e18)) hv, Tl2, ho, zl5, by decide, fun u2 H19 C3 o3 e19 hC3 ho3 hD3 => ?_⟩
    obtain rfl := hC2.one hC3 (fun _ => Iff.rfl)
    obtain ⟨p8, a8, b8, q81, q82, q83, q84⟩ := id hE2
    walk_at "rd"
    refine ⟨z, u, u2, _, C2, o3, rfl, ⟨p8, a8, b8, q81, e19 _ _ q82, imm (.ex e19) q83, imm (.ex e19) q84⟩, hD3, rrdP "" tE (by decide), carl _ _ hC2, by omega, ho3, fun H20 e20 => ?_⟩
    have f20 := ((f17.trans e18).trans e19).trans e20
    walk_at "rd"
    -- back, ahead
    refine ⟨z, v, Ts, ct, true, rfl, imm (.ex f20) hv, Tl2, ho, zl5, by omega, fun ub H21 Sb Cb ob e21 hb hDb => ?_⟩
    walk_at "rd"
    refine ⟨z, v, Ts, ct, false, rfl, imm (.ex (f20.trans e21)) hv, Tl2, ho, zl5, by omega, fun ua H22 Sa Ca oa e22 ha hDa => ?_⟩
    have f22 := (f20.trans e21).trans e22
    walk_at "rd"
    refine ⟨v, Ts, z, ct, rfl, imm (.ex f22) hv, by omega, by omega, fun u H23 m1 C4 e23 pw1 pm1 hC4 hE4 => ?_⟩
    obtain ⟨rfl, hCb, hob⟩ := hb m1 pw1 pm1
    obtain rfl := hC4.one hCb (fun _ => Iff.rfl)
    walk_at "rd"
    refine ⟨z, u, ub, _, C4, ob, rfl, hE4, hDb.up (e22.trans e23), rrdC true ct m1 (by omega) pw1 pm1, cutl _ _ hC4, by omega, hob, fun H24 e24 => ?_⟩
    have f24 := (f22.trans e23).trans e24
    walk_at "rd"
    refine ⟨v, Ts, z, ct, rfl, imm (.ex f24) hv, by omega, by omega, fun u H25 m2 C5 e25 pw2 pm2 hC5 hE5 => ?_⟩
    obtain ⟨rfl, hCa, hoa⟩ := ha m2 pw2 pm2
    obtain rfl := hC5.one hCa (fun _ => Iff.rfl)
    walk_at "rd"
    refine ⟨z, u, ua, _, C5, oa, rfl, hE5, hDa.up ((e23.trans e24).trans e25), rrdC false ct m2 (by omega) pw2 pm2, cutl _ _ hC5, by omega, hoa, fun H26 e26 => ?_⟩
    have f26 := (f24.trans e25).trans e26
    walk_at "rd"
    -- back_cuts(given, body, 0)
    refine ⟨v, Ts, z, 0, rfl, imm (.ex f26) hv, by omega, by omega, fun u H27 m3 C6 e27 pw3 pm3 hC6 hE6 => ?_⟩
    walk_at "rd"
    refine ⟨z, v, Ts, 0, true, rfl, imm (.ex (f26.trans e27)) hv, Tl2, ho, zl5, by decide, fun u3 H28 S3 C7 o3 e28 h3 hD3 => ?_⟩
    obtain ⟨rfl, hC7, ho3⟩ := h3 m3 pw3 pm3
    obtain rfl := hC6.one hC7 (fun _ => Iff.rfl)
    obtain ⟨p9, a9, b9, q91, q92, q93, q94⟩ := id hE6
    walk_at "rd"
    refine ⟨z, u, u3, _, C6, o3, rfl, ⟨p9, a9, b9, q91, e28 _ _ q92, imm (.ex e28) q93, imm (.ex e28) q94⟩, hD3, rrdC true 0 m3 (by decide) pw3 pm3, cutl _ _ hC6, by omega, ho3, fun H29 e29 => ?_⟩
    have f29 := ((f26.trans e27).trans e28).trans e29
    walk_at "rd"
    -- ahead_cuts(many=1, ..)
    refine ⟨v, Ts, z, 1, rfl, imm (.ex f29) hv, by omega, by omega, fun u H30 m4 C8 e30 pw4 pm4 hC8 hE8 => ?_⟩
    walk_at "rd"
    refine ⟨z, v, Ts, 1, false, rfl, imm (.ex (f29.trans e30)) hv, Tl2, ho, zl5, by decide, fun u4 H31 S4 C9 o4 e31 h4 hD4 => ?_⟩
    obtain ⟨rfl, hC9, ho4⟩ := h4 m4 pw4 pm4
    obtain rfl := hC8.one hC9 (fun _ => Iff.rfl)
    obtain ⟨p10, a10, b10, q101, q102, q103, q104⟩ := id hE8
    walk_at "rd"
    refine ⟨z, u, u4, _, C8, o4, rfl, ⟨p10, a10, b10, q101, e31 _ _ q102, imm (.ex e31) q103, imm (.ex e31) q104⟩, hD4, rrdC false 1 m4 (by decide) pw4 pm4, cutl _ _ hC8, by omega, ho4, fun H32 e32 => ?_⟩
    have f32 := ((f29.trans e30).trans e31).trans e32
    walk_at "rd"
    -- put_round(text=.., picks=..)
    refine ⟨v, Ts, t, rfl, imm (.ex f32) hv, by omega, by omega, fun u H33 C10 e33 hC10 hE10 => ?_⟩
    obtain rfl := hC10.one hC (fun _ => Iff.rfl)
    have g33 : Ex H16 H33 := e17.trans (e18.trans (e19.trans (e20.trans (e21.trans (e22.trans (e23.trans (e24.trans (e25.trans (e26.trans (e27.trans (e28.trans (e29.trans (e30.trans (e31.trans (e32.trans e33)))))))))))))))
    walk_at "rd"
    refine ⟨z, u, u0, _, C10, o0, rfl, hE10, hD0.up (e16.trans g33), rrdP t ht tl10, carl _ _ hC10, by omega, ho0, fun H34 e34 => ?_⟩
    have f34 := (f32.trans e33).trans e34
    walk_at "rd"
    refine ⟨v, Ts, z, ct, rfl, imm (.ex f34) hv, by omega, by omega, fun u H35 m5 C11 e35 pw5 pm5 hC11 hE11 => ?_⟩
    obtain ⟨hS5, hCb5, hob5⟩ := hb m5 pw5 pm5
    have eC : C11 = C4 := hC11.one hCb5 (fun _ => Iff.rfl)
    have g35 : Ex H21 H35 := e22.trans (e23.trans (e24.trans (e25.trans (e26.trans (e27.trans (e28.trans (e29.trans (e30.trans (e31.trans (e32.trans (e33.trans (e34.trans e35))))))))))))
    rw [← hS5, eC] at hE11
    walk_at "rd"
    exact ⟨z, u, ub, _, C4, ob, rfl, hE11, hDb.up g35, rrdC true ct m1 (by omega) pw1 pm1, cutl _ _ hC4, by omega, hob, fun H36 e36 => q H36⟩
end
theorem all_mk {l : PySem.W.OpenLaw} {w : World} {K : PySem.W.Frag} {h : Heap} {mg : Str → Option Value} {fa : Addr} (X : K.In h) (G : h.Ns mainGlobals mg) (hfa : mg "law" = some (.ref fa))
    {f_low_high : Addr} {od_low_high an_low_high : Option Addr} {sl_low_high : Array (Option Value)} {oc_low_high kV_low_high dc_low_high pm_low_high cd_low_high ct_low_high : Value}
    {f_joined_stretches : Addr} {od_joined_stretches an_joined_stretches : Option Addr} {sl_joined_stretches : Array (Option Value)} {oc_joined_stretches kV_joined_stretches dc_joined_stretches pm_joined_stretches cd_joined_stretches ct_joined_stretches : Value}
    {f_put_texts : Addr} {od_put_texts an_put_texts : Option Addr} {sl_put_texts : Array (Option Value)} {oc_put_texts kV_put_texts dc_put_texts pm_put_texts cd_put_texts ct_put_texts : Value}
    {f_put_round : Addr} {od_put_round an_put_round : Option Addr} {sl_put_round : Array (Option Value)} {oc_put_round kV_put_round dc_put_round pm_put_round cd_put_round ct_put_round : Value}
    {f_cut_ahead : Addr} {od_cut_ahead an_cut_ahead : Option Addr} {sl_cut_ahead : Array (Option Value)} {oc_cut_ahead kV_cut_ahead dc_cut_ahead pm_cut_ahead cd_cut_ahead ct_cut_ahead : Value}
    {f_cut_round : Addr} {od_cut_round an_cut_round : Option Addr} {sl_cut_round : Array (Option Value)} {oc_cut_round kV_cut_round dc_cut_round pm_cut_round cd_cut_round ct_cut_round : Value}
    {f_back_cuts : Addr} {od_back_cuts an_back_cuts : Option Addr} {sl_back_cuts : Array (Option Value)} {oc_back_cuts kV_back_cuts dc_back_cuts pm_back_cuts cd_back_cuts ct_back_cuts : Value}
    {f_ahead_cuts : Addr} {od_ahead_cuts an_ahead_cuts : Option Addr} {sl_ahead_cuts : Array (Option Value)} {oc_ahead_cuts kV_ahead_cuts dc_ahead_cuts pm_ahead_cuts cd_ahead_cuts ct_ahead_cuts : Value}
    {f_first_strange : Addr} {od_first_strange an_first_strange : Option Addr} {sl_first_strange : Array (Option Value)} {oc_first_strange kV_first_strange dc_first_strange pm_first_strange cd_first_strange ct_first_strange : Value}
    {f_is_text : Addr} {od_is_text an_is_text : Option Addr} {sl_is_text : Array (Option Value)} {oc_is_text kV_is_text dc_is_text pm_is_text cd_is_text ct_is_text : Value}
    {f_is_number : Addr} {od_is_number an_is_number : Option Addr} {sl_is_number : Array (Option Value)} {oc_is_number kV_is_number dc_is_number pm_is_number cd_is_number ct_is_number : Value}
    {f_is_splice : Addr} {od_is_splice an_is_splice : Option Addr} {sl_is_splice : Array (Option Value)} {oc_is_splice kV_is_splice dc_is_splice pm_is_splice cd_is_splice ct_is_splice : Value}
    {f_follows : Addr} {od_follows an_follows : Option Addr} {sl_follows : Array (Option Value)} {oc_follows kV_follows dc_follows pm_follows cd_follows ct_follows : Value}
    {f_check_round : Addr} {od_check_round an_check_round : Option Addr} {sl_check_round : Array (Option Value)} {oc_check_round kV_check_round dc_check_round pm_check_round cd_check_round ct_check_round : Value}
    {f_spliced : Addr} {od_spliced an_spliced : Option Addr} {sl_spliced : Array (Option Value)} {oc_spliced kV_spliced dc_spliced pm_spliced cd_spliced ct_spliced : Value}
    {f_law_draws : Addr} {od_law_draws an_law_draws : Option Addr} {sl_law_draws : Array (Option Value)} {oc_law_draws kV_law_draws dc_law_draws pm_law_draws cd_law_draws ct_law_draws : Value}
    {f_law_take : Addr} {od_law_take an_law_take : Option Addr} {sl_law_take : Array (Option Value)} {oc_law_take kV_law_take dc_law_take pm_law_take cd_law_take ct_law_take : Value}
    {f_law_sign : Addr} {od_law_sign an_law_sign : Option Addr} {sl_law_sign : Array (Option Value)} {oc_law_sign kV_law_sign dc_law_sign pm_law_sign cd_law_sign ct_law_sign : Value}
    {f_law_text : Addr} {od_law_text an_law_text : Option Addr} {sl_law_text : Array (Option Value)} {oc_law_text kV_law_text dc_law_text pm_law_text cd_law_text ct_law_text : Value}
    {f_law_picks : Addr} {od_law_picks an_law_picks : Option Addr} {sl_law_picks : Array (Option Value)} {oc_law_picks kV_law_picks dc_law_picks pm_law_picks cd_law_picks ct_law_picks : Value}
    {f_law_put : Addr} {od_law_put an_law_put : Option Addr} {sl_law_put : Array (Option Value)} {oc_law_put kV_law_put dc_law_put pm_law_put cd_law_put ct_law_put : Value}
    {f_law_cut : Addr} {od_law_cut an_law_cut : Option Addr} {sl_law_cut : Array (Option Value)} {oc_law_cut kV_law_cut dc_law_cut pm_law_cut cd_law_cut ct_law_cut : Value}
    {f_law_number : Addr} {od_law_number an_law_number : Option Addr} {sl_law_number : Array (Option Value)} {oc_law_number kV_law_number dc_law_number pm_law_number cd_law_number ct_law_number : Value}
    {f_law_splice_same : Addr} {od_law_splice_same an_law_splice_same : Option Addr} {sl_law_splice_same : Array (Option Value)} {oc_law_splice_same kV_law_splice_same dc_law_splice_same pm_law_splice_same cd_law_splice_same ct_law_splice_same : Value}
    {f_law_same : Addr} {od_law_same an_law_same : Option Addr} {sl_law_same : Array (Option Value)} {oc_law_same kV_law_same dc_law_same pm_law_same cd_law_same ct_law_same : Value}
    {f_law_done : Addr} {od_law_done an_law_done : Option Addr} {sl_law_done : Array (Option Value)} {oc_law_done kV_law_done dc_law_done pm_law_done cd_law_done ct_law_done : Value}
    {f_law : Addr} {od_law an_law : Option Addr} {sl_law : Array (Option Value)} {oc_law kV_law dc_law pm_law cd_law ct_law : Value}
    {C_BadSplice fi_BadSplice N_BadSplice : Addr} {nm_BadSplice qn_BadSplice : Str} {bs_BadSplice su_BadSplice : List Value} {sn_BadSplice : List Str} {ab_BadSplice : Bool} {col_BadSplice : Option Bool} {dd_BadSplice : Option Addr} {m0_BadSplice m1_BadSplice m2_BadSplice m3_BadSplice m5_BadSplice : Option Value}
    {od_BadSplice an_BadSplice : Option Addr} {sl_BadSplice : Array (Option Value)} {oc_BadSplice kV_BadSplice dc_BadSplice pm_BadSplice cd_BadSplice ct_BadSplice : Value}
    {B_BadSplice_DeskError : Addr}
    {tk_ALPHABET : Tok}
    (a_low_high : PySem.W.nsIn K mainGlobals "low_high" = some (some (.ref f_low_high)))
    (l_low_high : K.lookup f_low_high = some ⟨oc_low_high, od_low_high, .func (PySem.W.fnOf "low_high" "low_high" (defArgs s_low_high) (defBody s_low_high) (defScope s_low_high) .none kV_low_high dc_low_high pm_low_high an_low_high cd_low_high ct_low_high), sl_low_high⟩)
    (c_low_high : PySem.W.codeIn K cd_low_high "low_high" = true)
    (k_low_high : PySem.W.keepIn K (.ref f_low_high) = true)
    (a_joined_stretches : PySem.W.nsIn K mainGlobals "joined_stretches" = some (some (.ref f_joined_stretches)))
    (l_joined_stretches : K.lookup f_joined_stretches = some ⟨oc_joined_stretches, od_joined_stretches, .func (PySem.W.fnOf "joined_stretches" "joined_stretches" (defArgs s_joined_stretches) (defBody s_joined_stretches) (defScope s_joined_stretches) .none kV_joined_stretches dc_joined_stretches pm_joined_stretches an_joined_stretches cd_joined_stretches ct_joined_stretches), sl_joined_stretches⟩)
    (c_joined_stretches : PySem.W.codeIn K cd_joined_stretches "joined_stretches" = true)
    (k_joined_stretches : PySem.W.keepIn K (.ref f_joined_stretches) = true)
    (a_put_texts : PySem.W.nsIn K mainGlobals "put_texts" = some (some (.ref f_put_texts)))
    (l_put_texts : K.lookup f_put_texts = some ⟨oc_put_texts, od_put_texts, .func (PySem.W.fnOf "put_texts" "put_texts" (defArgs s_put_texts) (defBody s_put_texts) (defScope s_put_texts) .none kV_put_texts dc_put_texts pm_put_texts an_put_texts cd_put_texts ct_put_texts), sl_put_texts⟩)
    (c_put_texts : PySem.W.codeIn K cd_put_texts "put_texts" = true)
    (k_put_texts : PySem.W.keepIn K (.ref f_put_texts) = true)
    (a_put_round : PySem.W.nsIn K mainGlobals "put_round" = some (some (.ref f_put_round)))
    (l_put_round : K.lookup f_put_round = some ⟨oc_put_round, od_put_round, .func (PySem.W.fnOf "put_round" "put_round" (defArgs s_put_round) (defBody s_put_round) (defScope s_put_round) .none kV_put_round dc_put_round pm_put_round an_put_round cd_put_round ct_put_round), sl_put_round⟩)
    (c_put_round : PySem.W.codeIn K cd_put_round "put_round" = true)
    (k_put_round : PySem.W.keepIn K (.ref f_put_round) = true)
    (a_cut_ahead : PySem.W.nsIn K mainGlobals "cut_ahead" = some (some (.ref f_cut_ahead)))
    (l_cut_ahead : K.lookup f_cut_ahead = some ⟨oc_cut_ahead, od_cut_ahead, .func (PySem.W.fnOf "cut_ahead" "cut_ahead" (defArgs s_cut_ahead) (defBody s_cut_ahead) (defScope s_cut_ahead) .none kV_cut_ahead dc_cut_ahead pm_cut_ahead an_cut_ahead cd_cut_ahead ct_cut_ahead), sl_cut_ahead⟩)
    (c_cut_ahead : PySem.W.codeIn K cd_cut_ahead "cut_ahead" = true)
    (k_cut_ahead : PySem.W.keepIn K (.ref f_cut_ahead) = true)
    (a_cut_round : PySem.W.nsIn K mainGlobals "cut_round" = some (some (.ref f_cut_round)))
    (l_cut_round : K.lookup f_cut_round = some ⟨oc_cut_round, od_cut_round, .func (PySem.W.fnOf "cut_round" "cut_round" (defArgs s_cut_round) (defBody s_cut_round) (defScope s_cut_round) .none kV_cut_round dc_cut_round pm_cut_round an_cut_round cd_cut_round ct_cut_round), sl_cut_round⟩)
    (c_cut_round : PySem.W.codeIn K cd_cut_round "cut_round" = true)
    (k_cut_round : PySem.W.keepIn K (.ref f_cut_round) = true)
    (a_back_cuts : PySem.W.nsIn K mainGlobals "back_cuts" = some (some (.ref f_back_cuts)))
    (l_back_cuts : K.lookup f_back_cuts = some ⟨oc_back_cuts, od_back_cuts, .func (PySem.W.fnOf "back_cuts" "back_cuts" (defArgs s_back_cuts) (defBody s_back_cuts) (defScope s_back_cuts) .none kV_back_cuts dc_back_cuts pm_back_cuts an_back_cuts cd_back_cuts ct_back_cuts), sl_back_cuts⟩)
    (c_back_cuts : PySem.W.codeIn K cd_back_cuts "back_cuts" = true)
    (k_back_cuts : PySem.W.keepIn K (.ref f_back_cuts) = true)
    (a_ahead_cuts : PySem.W.nsIn K mainGlobals "ahead_cuts" = some (some (.ref f_ahead_cuts)))
    (l_ahead_cuts : K.lookup f_ahead_cuts = some ⟨oc_ahead_cuts, od_ahead_cuts, .func (PySem.W.fnOf "ahead_cuts" "ahead_cuts" (defArgs s_ahead_cuts) (defBody s_ahead_cuts) (defScope s_ahead_cuts) .none kV_ahead_cuts dc_ahead_cuts pm_ahead_cuts an_ahead_cuts cd_ahead_cuts ct_ahead_cuts), sl_ahead_cuts⟩)
    (c_ahead_cuts : PySem.W.codeIn K cd_ahead_cuts "ahead_cuts" = true)
    (k_ahead_cuts : PySem.W.keepIn K (.ref f_ahead_cuts) = true)
    (a_first_strange : PySem.W.nsIn K mainGlobals "first_strange" = some (some (.ref f_first_strange)))
    (l_first_strange : K.lookup f_first_strange = some ⟨oc_first_strange, od_first_strange, .func (PySem.W.fnOf "first_strange" "first_strange" (defArgs s_first_strange) (defBody s_first_strange) (defScope s_first_strange) .none kV_first_strange dc_first_strange pm_first_strange an_first_strange cd_first_strange ct_first_strange), sl_first_strange⟩)
    (c_first_strange : PySem.W.codeIn K cd_first_strange "first_strange" = true)
    (k_first_strange : PySem.W.keepIn K (.ref f_first_strange) = true)
    (a_is_text : PySem.W.nsIn K mainGlobals "is_text" = some (some (.ref f_is_text)))
    (l_is_text : K.lookup f_is_text = some ⟨oc_is_text, od_is_text, .func (PySem.W.fnOf "is_text" "is_text" (defArgs s_is_text) (defBody s_is_text) (defScope s_is_text) .none kV_is_text dc_is_text pm_is_text an_is_text cd_is_text ct_is_text), sl_is_text⟩)
    (c_is_text : PySem.W.codeIn K cd_is_text "is_text" = true)
    (k_is_text : PySem.W.keepIn K (.ref f_is_text) = true)
    (a_is_number : PySem.W.nsIn K mainGlobals "is_number" = some (some (.ref f_is_number)))
    (l_is_number : K.lookup f_is_number = some ⟨oc_is_number, od_is_number, .func (PySem.W.fnOf "is_number" "is_number" (defArgs s_is_number) (defBody s_is_number) (defScope s_is_number) .none kV_is_number dc_is_number pm_is_number an_is_number cd_is_number ct_is_number), sl_is_number⟩)
    (c_is_number : PySem.W.codeIn K cd_is_number "is_number" = true)
    (k_is_number : PySem.W.keepIn K (.ref f_is_number) = true)
    (a_is_splice : PySem.W.nsIn K mainGlobals "is_splice" = some (some (.ref f_is_splice)))
    (l_is_splice : K.lookup f_is_splice = some ⟨oc_is_splice, od_is_splice, .func (PySem.W.fnOf "is_splice" "is_splice" (defArgs s_is_splice) (defBody s_is_splice) (defScope s_is_splice) .none kV_is_splice dc_is_splice pm_is_splice an_is_splice cd_is_splice ct_is_splice), sl_is_splice⟩)
    (c_is_splice : PySem.W.codeIn K cd_is_splice "is_splice" = true)
    (k_is_splice : PySem.W.keepIn K (.ref f_is_splice) = true)
    (a_follows : PySem.W.nsIn K mainGlobals "follows" = some (some (.ref f_follows)))
    (l_follows : K.lookup f_follows = some ⟨oc_follows, od_follows, .func (PySem.W.fnOf "follows" "follows" (defArgs s_follows) (defBody s_follows) (defScope s_follows) .none kV_follows dc_follows pm_follows an_follows cd_follows ct_follows), sl_follows⟩)
    (c_follows : PySem.W.codeIn K cd_follows "follows" = true)
    (k_follows : PySem.W.keepIn K (.ref f_follows) = true)
    (a_check_round : PySem.W.nsIn K mainGlobals "check_round" = some (some (.ref f_check_round)))
    (l_check_round : K.lookup f_check_round = some ⟨oc_check_round, od_check_round, .func (PySem.W.fnOf "check_round" "check_round" (defArgs s_check_round) (defBody s_check_round) (defScope s_check_round) .none kV_check_round dc_check_round pm_check_round an_check_round cd_check_round ct_check_round), sl_check_round⟩)
    (c_check_round : PySem.W.codeIn K cd_check_round "check_round" = true)
    (k_check_round : PySem.W.keepIn K (.ref f_check_round) = true)
    (a_spliced : PySem.W.nsIn K mainGlobals "spliced" = some (some (.ref f_spliced)))
    (l_spliced : K.lookup f_spliced = some ⟨oc_spliced, od_spliced, .func (PySem.W.fnOf "spliced" "spliced" (defArgs s_spliced) (defBody s_spliced) (defScope s_spliced) .none kV_spliced dc_spliced pm_spliced an_spliced cd_spliced ct_spliced), sl_spliced⟩)
    (c_spliced : PySem.W.codeIn K cd_spliced "spliced" = true)
    (k_spliced : PySem.W.keepIn K (.ref f_spliced) = true)
    (a_law_draws : PySem.W.nsIn K mainGlobals "_law_draws" = some (some (.ref f_law_draws)))
    (l_law_draws : K.lookup f_law_draws = some ⟨oc_law_draws, od_law_draws, .func (PySem.W.fnOf "_law_draws" "_law_draws" (defArgs s_law_draws) (defBody s_law_draws) (defScope s_law_draws) .none kV_law_draws dc_law_draws pm_law_draws an_law_draws cd_law_draws ct_law_draws), sl_law_draws⟩)
    (c_law_draws : PySem.W.codeIn K cd_law_draws "_law_draws" = true)
    (k_law_draws : PySem.W.keepIn K (.ref f_law_draws) = true)
    (a_law_take : PySem.W.nsIn K mainGlobals "_law_take" = some (some (.ref f_law_take)))
    (l_law_take : K.lookup f_law_take = some ⟨oc_law_take, od_law_take, .func (PySem.W.fnOf "_law_take" "_law_take" (defArgs s_law_take) (defBody s_law_take) (defScope s_law_take) .none kV_law_take dc_law_take pm_law_take an_law_take cd_law_take ct_law_take), sl_law_take⟩)
    (c_law_take : PySem.W.codeIn K cd_law_take "_law_take" = true)
    (k_law_take : PySem.W.keepIn K (.ref f_law_take) = true)
    (a_law_sign : PySem.W.nsIn K mainGlobals "_law_sign" = some (some (.ref f_law_sign)))
    (l_law_sign : K.lookup f_law_sign = some ⟨oc_law_sign, od_law_sign, .func (PySem.W.fnOf "_law_sign" "_law_sign" (defArgs s_law_sign) (defBody s_law_sign) (defScope s_law_sign) .none kV_law_sign dc_law_sign pm_law_sign an_law_sign cd_law_sign ct_law_sign), sl_law_sign⟩)
    (c_law_sign : PySem.W.codeIn K cd_law_sign "_law_sign" = true)
    (k_law_sign : PySem.W.keepIn K (.ref f_law_sign) = true)
    (a_law_text : PySem.W.nsIn K mainGlobals "_law_text" = some (some (.ref f_law_text)))
    (l_law_text : K.lookup f_law_text = some ⟨oc_law_text, od_law_text, .func (PySem.W.fnOf "_law_text" "_law_text" (defArgs s_law_text) (defBody s_law_text) (defScope s_law_text) .none kV_law_text dc_law_text pm_law_text an_law_text cd_law_text ct_law_text), sl_law_text⟩)
    (c_law_text : PySem.W.codeIn K cd_law_text "_law_text" = true)
    (k_law_text : PySem.W.keepIn K (.ref f_law_text) = true)
    (a_law_picks : PySem.W.nsIn K mainGlobals "_law_picks" = some (some (.ref f_law_picks)))
    (l_law_picks : K.lookup f_law_picks = some ⟨oc_law_picks, od_law_picks, .func (PySem.W.fnOf "_law_picks" "_law_picks" (defArgs s_law_picks) (defBody s_law_picks) (defScope s_law_picks) .none kV_law_picks dc_law_picks pm_law_picks an_law_picks cd_law_picks ct_law_picks), sl_law_picks⟩)
    (c_law_picks : PySem.W.codeIn K cd_law_picks "_law_picks" = true)
    (k_law_picks : PySem.W.keepIn K (.ref f_law_picks) = true)
    (a_law_put : PySem.W.nsIn K mainGlobals "_law_put" = some (some (.ref f_law_put)))
    (l_law_put : K.lookup f_law_put = some ⟨oc_law_put, od_law_put, .func (PySem.W.fnOf "_law_put" "_law_put" (defArgs s_law_put) (defBody s_law_put) (defScope s_law_put) .none kV_law_put dc_law_put pm_law_put an_law_put cd_law_put ct_law_put), sl_law_put⟩)
    (c_law_put : PySem.W.codeIn K cd_law_put "_law_put" = true)
    (k_law_put : PySem.W.keepIn K (.ref f_law_put) = true)
    (a_law_cut : PySem.W.nsIn K mainGlobals "_law_cut" = some (some (.ref f_law_cut)))
    (l_law_cut : K.lookup f_law_cut = some ⟨oc_law_cut, od_law_cut, .func (PySem.W.fnOf "_law_cut" "_law_cut" (defArgs s_law_cut) (defBody s_law_cut) (defScope s_law_cut) .none kV_law_cut dc_law_cut pm_law_cut an_law_cut cd_law_cut ct_law_cut), sl_law_cut⟩)
    (c_law_cut : PySem.W.codeIn K cd_law_cut "_law_cut" = true)
    (k_law_cut : PySem.W.keepIn K (.ref f_law_cut) = true)
    (a_law_number : PySem.W.nsIn K mainGlobals "_law_number" = some (some (.ref f_law_number)))
    (l_law_number : K.lookup f_law_number = some ⟨oc_law_number, od_law_number, .func (PySem.W.fnOf "_law_number" "_law_number" (defArgs s_law_number) (defBody s_law_number) (defScope s_law_number) .none kV_law_number dc_law_number pm_law_number an_law_number cd_law_number ct_law_number), sl_law_number⟩)
    (c_law_number : PySem.W.codeIn K cd_law_number "_law_number" = true)
    (k_law_number : PySem.W.keepIn K (.ref f_law_number) = true)
    (a_law_splice_same : PySem.W.nsIn K mainGlobals "_law_splice_same" = some (some (.ref f_law_splice_same)))
    (l_law_splice_same : K.lookup f_law_splice_same = some ⟨oc_law_splice_same, od_law_splice_same, .func (PySem.W.fnOf "_law_splice_same" "_law_splice_same" (defArgs s_law_splice_same) (defBody s_law_splice_same) (defScope s_law_splice_same) .none kV_law_splice_same dc_law_splice_same pm_law_splice_same an_law_splice_same cd_law_splice_same ct_law_splice_same), sl_law_splice_same⟩)
    (c_law_splice_same : PySem.W.codeIn K cd_law_splice_same "_law_splice_same" = true)
    (k_law_splice_same : PySem.W.keepIn K (.ref f_law_splice_same) = true)
    (a_law_same : PySem.W.nsIn K mainGlobals "_law_same" = some (some (.ref f_law_same)))
    (l_law_same : K.lookup f_law_same = some ⟨oc_law_same, od_law_same, .func (PySem.W.fnOf "_law_same" "_law_same" (defArgs s_law_same) (defBody s_law_same) (defScope s_law_same) .none kV_law_same dc_law_same pm_law_same an_law_same cd_law_same ct_law_same), sl_law_same⟩)
    (c_law_same : PySem.W.codeIn K cd_law_same "_law_same" = true)
    (k_law_same : PySem.W.keepIn K (.ref f_law_same) = true)
    (a_law_done : PySem.W.nsIn K mainGlobals "_law_done" = some (some (.ref f_law_done)))
    (l_law_done : K.lookup f_law_done = some ⟨oc_law_done, od_law_done, .func (PySem.W.fnOf "_law_done" "_law_done" (defArgs s_law_done) (defBody s_law_done) (defScope s_law_done) .none kV_law_done dc_law_done pm_law_done an_law_done cd_law_done ct_law_done), sl_law_done⟩)
    (c_law_done : PySem.W.codeIn K cd_law_done "_law_done" = true)
    (k_law_done : PySem.W.keepIn K (.ref f_law_done) = true)
    (a_law : PySem.W.nsIn K mainGlobals "law" = some (some (.ref f_law)))
    (l_law : K.lookup f_law = some ⟨oc_law, od_law, .func (PySem.W.fnOf "law" "law" (defArgs s_law) (defBody s_law) (defScope s_law) .none kV_law dc_law pm_law an_law cd_law ct_law), sl_law⟩)
    (c_law : PySem.W.codeIn K cd_law "law" = true)
    (k_law : PySem.W.keepIn K (.ref f_law) = true)
    (aC_BadSplice : PySem.W.nsIn K mainGlobals "BadSplice" = some (some (.ref C_BadSplice)))
    (xL_BadSplice : K.lookup C_BadSplice = some (excClassObj nm_BadSplice qn_BadSplice C_BadSplice N_BadSplice bs_BadSplice [.ref B_BadSplice_DeskError, .type "ValueError", .type "Exception", .type "BaseException", .type "object"] true sn_BadSplice su_BadSplice ab_BadSplice col_BadSplice dd_BadSplice m0_BadSplice m1_BadSplice m2_BadSplice m3_BadSplice m5_BadSplice "ValueError.__new__"))
    (sa_BadSplice : PySem.W.findIn K (.ref C_BadSplice) "__setattr__" = some (some (.builtin "object.__setattr__")))
    (ga_BadSplice : PySem.W.findIn K (.ref C_BadSplice) "__getattribute__" = some (some (.builtin "BaseException.__getattribute__")))
    (gg_BadSplice : PySem.W.findIn K (.ref C_BadSplice) "__getattr__" = some none)
    (na_BadSplice_at : PySem.W.findIn K (.ref C_BadSplice) "at" = some none)
    (iC_BadSplice : PySem.W.findIn K (.ref C_BadSplice) "__init__" = some (some (.ref fi_BadSplice)))
    (ti_BadSplice : PySem.W.typeIn K (.ref fi_BadSplice) = some (.type "function"))
    (li_BadSplice : K.lookup fi_BadSplice = some ⟨oc_BadSplice, od_BadSplice, .func (PySem.W.fnOf "__init__" "BadSplice.__init__" (defArgs s_init_BadSplice) (defBody s_init_BadSplice) (defScope s_init_BadSplice) .none kV_BadSplice dc_BadSplice pm_BadSplice an_BadSplice cd_BadSplice ct_BadSplice), sl_BadSplice⟩)
    (ci_BadSplice : PySem.W.codeIn K cd_BadSplice "BadSplice.__init__" = true)
    (ki_BadSplice : PySem.W.keepIn K (.ref fi_BadSplice) = true)
    (kC_BadSplice : PySem.W.keepIn K (.ref C_BadSplice) = true)
    (eC_BadSplice : PySem.W.subIn K (.ref C_BadSplice) (.type "BaseException") = some true)
    (tC_BadSplice : PySem.W.typeIn K (.ref C_BadSplice) = some (.type "type"))
    (hC_BadSplice : PySem.W.hasDictIn K C_BadSplice = true)
    (yC_BadSplice : PySem.W.isClsIn K C_BadSplice = true)
    (sC_BadSplice : PySem.W.subIn K (.ref C_BadSplice) (.ref C_BadSplice) = some true)
    (v_ALPHABET : PySem.W.nsIn K mainGlobals "ALPHABET" = some (some (.str "\n !\"#$&'()*+,-./0123456789:;<=>?@ABCDEFGHIJKLMNOPQRSTUVWXYZ[\\]^_`abcdefghijklmnopqrstuvwxyz{|}~" tk_ALPHABET)))
    (z_abs : PySem.W.nsIn K mainGlobals "abs" = some none)
    (z_bool : PySem.W.nsIn K mainGlobals "bool" = some none)
    (z_enumerate : PySem.W.nsIn K mainGlobals "enumerate" = some none)
    (z_int : PySem.W.nsIn K mainGlobals "int" = some none)
    (z_isinstance : PySem.W.nsIn K mainGlobals "isinstance" = some none)
    (z_len : PySem.W.nsIn K mainGlobals "len" = some none)
    (z_max : PySem.W.nsIn K mainGlobals "max" = some none)
    (z_min : PySem.W.nsIn K mainGlobals "min" = some none)
    (z_range : PySem.W.nsIn K mainGlobals "range" = some none)
    (z_set : PySem.W.nsIn K mainGlobals "set" = some none)
    (z_sorted : PySem.W.nsIn K mainGlobals "sorted" = some none)
    (z_str : PySem.W.nsIn K mainGlobals "str" = some none)
    (z_sum : PySem.W.nsIn K mainGlobals "sum" = some none)
    (z_tuple : PySem.W.nsIn K mainGlobals "tuple" = some none)
    (z_zip : PySem.W.nsIn K mainGlobals "zip" = some none) :
    ∃ fd : FuncData, (∀ (s : Shared) (v : Value), BindsTo s fd ⟨[v], []⟩ [("_law_script", v)]) ∧ ∀ base : Heap, K.In base → base.Ns mainGlobals mg → FnOk l.prog w K mg base CX0 7 fa fd ["_law_script"] (sp_law K) := by
  have e := hfa.symm.trans (PySem.W.mg_of X G a_law)
  cases e
  have F_low_high := fun_mk (st := s_low_high) l_low_high c_low_high k_low_high
  have F_joined_stretches := fun_mk (st := s_joined_stretches) l_joined_stretches c_joined_stretches k_joined_stretches
  have F_put_texts := fun_mk (st := s_put_texts) l_put_texts c_put_texts k_put_texts
  have F_put_round := fun_mk (st := s_put_round) l_put_round c_put_round k_put_round
  have F_cut_ahead := fun_mk (st := s_cut_ahead) l_cut_ahead c_cut_ahead k_cut_ahead
  have F_cut_round := fun_mk (st := s_cut_round) l_cut_round c_cut_round k_cut_round
  have F_back_cuts := fun_mk (st := s_back_cuts) l_back_cuts c_back_cuts k_back_cuts
  have F_ahead_cuts := fun_mk (st := s_ahead_cuts) l_ahead_cuts c_ahead_cuts k_ahead_cuts
  have F_first_strange := fun_mk (st := s_first_strange) l_first_strange c_first_strange k_first_strange
  have F_is_text := fun_mk (st := s_is_text) l_is_text c_is_text k_is_text
  have F_is_number := fun_mk (st := s_is_number) l_is_number c_is_number k_is_number
  have F_is_splice := fun_mk (st := s_is_splice) l_is_splice c_is_splice k_is_splice
  have F_follows := fun_mk (st := s_follows) l_follows c_follows k_follows
  have F_check_round := fun_mk (st := s_check_round) l_check_round c_check_round k_check_round
  have F_spliced := fun_mk (st := s_spliced) l_spliced c_spliced k_spliced
  have F_law_draws := fun_mk (st := s_law_draws) l_law_draws c_law_draws k_law_draws
  have F_law_take := fun_mk (st := s_law_take) l_law_take c_law_take k_law_take
  have F_law_sign := fun_mk (st := s_law_sign) l_law_sign c_law_sign k_law_sign
  have F_law_text := fun_mk (st := s_law_text) l_law_text c_law_text k_law_text
  have F_law_picks := fun_mk (st := s_law_picks) l_law_picks c_law_picks k_law_picks
  have F_law_put := fun_mk (st := s_law_put) l_law_put c_law_put k_law_put
  have F_law_cut := fun_mk (st := s_law_cut) l_law_cut c_law_cut k_law_cut
  have F_law_number := fun_mk (st := s_law_number) l_law_number c_law_number k_law_number
  have F_law_splice_same := fun_mk (st := s_law_splice_same) l_law_splice_same c_law_splice_same k_law_splice_same
  have F_law_same := fun_mk (st := s_law_same) l_law_same c_law_same k_law_same
  have F_law_done := fun_mk (st := s_law_done) l_law_done c_law_done k_law_done
  have F_law := fun_mk (st := s_law) l_law c_law k_law
  have F_BadSplice := fun_mk (st := s_init_BadSplice) li_BadSplice ci_BadSplice ki_BadSplice
  let T : Txt K mg := {
    a_low_high := _, d_low_high := _, F_low_high := F_low_high, g_low_high := PySem.W.mg_of X G a_low_high,
    b_low_high := F_low_high.binds (ps := ["pick"]) (fun _ _ _ _ _ _ us hl => match us, hl with | [_], _ => rfl),
    a_joined_stretches := _, d_joined_stretches := _, F_joined_stretches := F_joined_stretches, g_joined_stretches := PySem.W.mg_of X G a_joined_stretches,
    b_joined_stretches := F_joined_stretches.binds (ps := ["stretches"]) (fun _ _ _ _ _ _ us hl => match us, hl with | [_], _ => rfl),
    a_put_texts := _, d_put_texts := _, F_put_texts := F_put_texts, g_put_texts := PySem.W.mg_of X G a_put_texts,
    b_put_texts := F_put_texts.binds (ps := ["picks", "texts"]) (fun _ _ _ _ _ _ us hl => match us, hl with | [_, _], _ => rfl),
    a_put_round := _, d_put_round := _, F_put_round := F_put_round, g_put_round := PySem.W.mg_of X G a_put_round,
    b_put_round := F_put_round.binds (ps := ["picks", "text"]) (fun _ _ _ _ _ _ us hl => match us, hl with | [_, _], _ => rfl),
    a_cut_ahead := _, d_cut_ahead := _, F_cut_ahead := F_cut_ahead, g_cut_ahead := PySem.W.mg_of X G a_cut_ahead,
    b_cut_ahead := F_cut_ahead.binds (ps := ["stretches", "place"]) (fun _ _ _ _ _ _ us hl => match us, hl with | [_, _], _ => rfl),
    a_cut_round := _, d_cut_round := _, F_cut_round := F_cut_round, g_cut_round := PySem.W.mg_of X G a_cut_round,
    b_cut_round := F_cut_round.binds (ps := ["picks", "stretches"]) (fun _ _ _ _ _ _ us hl => match us, hl with | [_, _], _ => rfl),
    a_back_cuts := _, d_back_cuts := _, F_back_cuts := F_back_cuts, g_back_cuts := PySem.W.mg_of X G a_back_cuts,
    b_back_cuts := F_back_cuts.binds (ps := ["picks", "text", "many"]) (fun _ _ _ _ _ _ us hl => match us, hl with | [_, _, _], _ => rfl),
    a_ahead_cuts := _, d_ahead_cuts := _, F_ahead_cuts := F_ahead_cuts, g_ahead_cuts := PySem.W.mg_of X G a_ahead_cuts,
    b_ahead_cuts := F_ahead_cuts.binds (ps := ["picks", "text", "many"]) (fun _ _ _ _ _ _ us hl => match us, hl with | [_, _, _], _ => rfl),
    a_first_strange := _, d_first_strange := _, F_first_strange := F_first_strange, g_first_strange := PySem.W.mg_of X G a_first_strange,
    b_first_strange := F_first_strange.binds (ps := ["text"]) (fun _ _ _ _ _ _ us hl => match us, hl with | [_], _ => rfl),
    a_is_text := _, d_is_text := _, F_is_text := F_is_text, g_is_text := PySem.W.mg_of X G a_is_text,
    b_is_text := F_is_text.binds (ps := ["thing"]) (fun _ _ _ _ _ _ us hl => match us, hl with | [_], _ => rfl),
    a_is_number := _, d_is_number := _, F_is_number := F_is_number, g_is_number := PySem.W.mg_of X G a_is_number,
    b_is_number := F_is_number.binds (ps := ["thing"]) (fun _ _ _ _ _ _ us hl => match us, hl with | [_], _ => rfl),
    a_is_splice := _, d_is_splice := _, F_is_splice := F_is_splice, g_is_splice := PySem.W.mg_of X G a_is_splice,
    b_is_splice := F_is_splice.binds (ps := ["thing"]) (fun _ _ _ _ _ _ us hl => match us, hl with | [_], _ => rfl),
    a_follows := _, d_follows := _, F_follows := F_follows, g_follows := PySem.W.mg_of X G a_follows,
    b_follows := F_follows.binds (ps := ["before", "splice"]) (fun _ _ _ _ _ _ us hl => match us, hl with | [_, _], _ => rfl),
    a_check_round := _, d_check_round := _, F_check_round := F_check_round, g_check_round := PySem.W.mg_of X G a_check_round,
    b_check_round := F_check_round.binds (ps := ["size", "splices"]) (fun _ _ _ _ _ _ us hl => match us, hl with | [_, _], _ => rfl),
    a_spliced := _, d_spliced := _, F_spliced := F_spliced, g_spliced := PySem.W.mg_of X G a_spliced,
    b_spliced := F_spliced.binds (ps := ["text", "splices"]) (fun _ _ _ _ _ _ us hl => match us, hl with | [_, _], _ => rfl),
    a_law_draws := _, d_law_draws := _, F_law_draws := F_law_draws, g_law_draws := PySem.W.mg_of X G a_law_draws,
    b_law_draws := F_law_draws.binds (ps := ["_law_script"]) (fun _ _ _ _ _ _ us hl => match us, hl with | [_], _ => rfl),
    a_law_take := _, d_law_take := _, F_law_take := F_law_take, g_law_take := PySem.W.mg_of X G a_law_take,
    b_law_take := F_law_take.binds (ps := ["_law_flow", "_law_many"]) (fun _ _ _ _ _ _ us hl => match us, hl with | [_, _], _ => rfl),
    a_law_sign := _, d_law_sign := _, F_law_sign := F_law_sign, g_law_sign := PySem.W.mg_of X G a_law_sign,
    b_law_sign := F_law_sign.binds (ps := ["_law_flow", "_law_few"]) (fun _ _ _ _ _ _ us hl => match us, hl with | [_, _], _ => rfl),
    a_law_text := _, d_law_text := _, F_law_text := F_law_text, g_law_text := PySem.W.mg_of X G a_law_text,
    b_law_text := F_law_text.binds (ps := ["_law_flow", "_law_size"]) (fun _ _ _ _ _ _ us hl => match us, hl with | [_, _], _ => rfl),
    a_law_picks := _, d_law_picks := _, F_law_picks := F_law_picks, g_law_picks := PySem.W.mg_of X G a_law_picks,
    b_law_picks := F_law_picks.binds (ps := ["_law_flow", "_law_size", "_law_most", "_law_gaps", "_law_sizes"]) (fun _ _ _ _ _ _ us hl => match us, hl with | [_, _, _, _, _], _ => rfl),
    a_law_put := _, d_law_put := _, F_law_put := F_law_put, g_law_put := PySem.W.mg_of X G a_law_put,
    b_law_put := F_law_put.binds (ps := ["_law_body", "_law_given", "_law_put_here"]) (fun _ _ _ _ _ _ us hl => match us, hl with | [_, _, _], _ => rfl),
    a_law_cut := _, d_law_cut := _, F_law_cut := F_law_cut, g_law_cut := PySem.W.mg_of X G a_law_cut,
    b_law_cut := F_law_cut.binds (ps := ["_law_body", "_law_given", "_law_most", "_law_back"]) (fun _ _ _ _ _ _ us hl => match us, hl with | [_, _, _, _], _ => rfl),
    a_law_number := _, d_law_number := _, F_law_number := F_law_number, g_law_number := PySem.W.mg_of X G a_law_number,
    b_law_number := F_law_number.binds (ps := ["_law_thing"]) (fun _ _ _ _ _ _ us hl => match us, hl with | [_], _ => rfl),
    a_law_splice_same := _, d_law_splice_same := _, F_law_splice_same := F_law_splice_same, g_law_splice_same := PySem.W.mg_of X G a_law_splice_same,
    b_law_splice_same := F_law_splice_same.binds (ps := ["_law_told", "_law_due"]) (fun _ _ _ _ _ _ us hl => match us, hl with | [_, _], _ => rfl),
    a_law_same := _, d_law_same := _, F_law_same := F_law_same, g_law_same := PySem.W.mg_of X G a_law_same,
    b_law_same := F_law_same.binds (ps := ["_law_told", "_law_due"]) (fun _ _ _ _ _ _ us hl => match us, hl with | [_, _], _ => rfl),
    a_law_done := _, d_law_done := _, F_law_done := F_law_done, g_law_done := PySem.W.mg_of X G a_law_done,
    b_law_done := F_law_done.binds (ps := ["_law_body", "_law_told", "_law_due"]) (fun _ _ _ _ _ _ us hl => match us, hl with | [_, _, _], _ => rfl),
    a_law := _, d_law := _, F_law := F_law, g_law := PySem.W.mg_of X G a_law,
    b_law := F_law.binds (ps := ["_law_script"]) (fun _ _ _ _ _ _ us hl => match us, hl with | [_], _ => rfl),
    kb_back_cuts_0 := ⟨fun _ us ws X hl => match us, ws, hl with | [], [_, _, _], _ => .of_eq rfl, gk_back_cuts_0_rel⟩,
    kb_ahead_cuts_0 := ⟨fun _ us ws X hl => match us, ws, hl with | [], [_, _, _], _ => .of_eq rfl, gk_ahead_cuts_0_rel⟩,
    kb_put_round_0 := ⟨fun _ us ws X hl => match us, ws, hl with | [], [_, _], _ => .of_eq rfl, gk_put_round_0_rel⟩,
    c_BadSplice := C_BadSplice, ai_BadSplice := fi_BadSplice, d_BadSplice := _, F_BadSplice := F_BadSplice, b_BadSplice := F_BadSplice.binds (ps := ["self", "at"]) (fun _ _ _ _ _ _ us hl => match us, hl with | [_, _], _ => rfl), g_BadSplice := PySem.W.mg_of X G aC_BadSplice,
    o_BadSplice := ⟨⟨_, _, _, _, _, _, _, _, _, _, _, _, _, _, _, xL_BadSplice, rfl⟩, sa_BadSplice, eC_BadSplice, tC_BadSplice, kC_BadSplice⟩, x_BadSplice := ⟨ga_BadSplice, gg_BadSplice, eC_BadSplice, hC_BadSplice⟩,
    i_BadSplice := iC_BadSplice, ti_BadSplice := ti_BadSplice, e_BadSplice := exm_self eC_BadSplice yC_BadSplice tC_BadSplice sC_BadSplice,
    na_BadSplice_at := na_BadSplice_at,
    t_ALPHABET := tk_ALPHABET, g_ALPHABET := PySem.W.mg_of X G v_ALPHABET,
    n_abs := PySem.W.mg_none_of X G z_abs,
    n_bool := PySem.W.mg_none_of X G z_bool,
    n_enumerate := PySem.W.mg_none_of X G z_enumerate,
    n_int := PySem.W.mg_none_of X G z_int,
    n_isinstance := PySem.W.mg_none_of X G z_isinstance,
    n_len := PySem.W.mg_none_of X G z_len,
    n_max := PySem.W.mg_none_of X G z_max,
    n_min := PySem.W.mg_none_of X G z_min,
    n_range := PySem.W.mg_none_of X G z_range,
    n_set := PySem.W.mg_none_of X G z_set,
    n_sorted := PySem.W.mg_none_of X G z_sorted,
    n_str := PySem.W.mg_none_of X G z_str,
    n_sum := PySem.W.mg_none_of X G z_sum,
    n_tuple := PySem.W.mg_none_of X G z_tuple,
    n_zip := PySem.W.mg_none_of X G z_zip }
  exact ⟨PySem.W.fnOf "law" "law" (defArgs s_law) (defBody s_law) (defScope s_law) .none kV_law dc_law pm_law an_law cd_law ct_law, fun s v => .of_eq rfl, fun base _ _ => ok_law T⟩
end K46
open PySem PySem.W PyProof.Rows
set_option maxHeartbeats 0 in
theorem PySem.Challenge.cw_deedstand_k46_whole_entering_at_picks_holds : PySem.Challenge.rw_deedstand_k46_whole_entering_at_picks.Holds := by
  w_on; o_law; k_head; (case hw => w_witness2)
  k_fill
  refine L2.walk_of (l := PySem.Challenge.rw_deedstand_k46_whole_entering_at_picks) (n := 63) (k := 7) (x := "_law_script") (CX := fun _ => L2.CX0) (sp := fun w => K46.sp_law _) rfl (by decide) rfl ⟨rfl, by decide, by decide⟩ (fun w h Y => PySem.W.kIn_of Y) ?F (fun _ _ a ns hl _ hS => ⟨a, ns, rfl, hS, hl, fun _ => rfl⟩) (fun _ _ _ _ _ h => h)
  case F =>
    intro w mg fa h KX G hmg
    refine' K46.all_mk KX G hmg ?a_low_high ?l_low_high ?c_low_high ?k_low_high ?a_joined_stretches ?l_joined_stretches ?c_joined_stretches ?k_joined_stretches ?a_put_texts ?l_put_texts ?c_put_texts ?k_put_texts ?a_put_round ?l_put_round ?c_put_round ?k_put_round ?a_cut_ahead ?l_cut_ahead ?c_cut_ahead ?k_cut_ahead ?a_cut_round ?l_cut_round ?c_cut_round ?k_cut_round ?a_back_cuts ?l_back_cuts ?c_back_cuts ?k_back_cuts ?a_ahead_cuts ?l_ahead_cuts ?c_ahead_cuts ?k_ahead_cuts ?a_first_strange ?l_first_strange ?c_first_strange ?k_first_strange ?a_is_text ?l_is_text ?c_is_text ?k_is_text ?a_is_number ?l_is_number ?c_is_number ?k_is_number ?a_is_splice ?l_is_splice ?c_is_splice ?k_is_splice ?a_follows ?l_follows ?c_follows ?k_follows ?a_check_round ?l_check_round ?c_check_round ?k_check_round ?a_spliced ?l_spliced ?c_spliced ?k_spliced ?a_law_draws ?l_law_draws ?c_law_draws ?k_law_draws ?a_law_take ?l_law_take ?c_law_take ?k_law_take ?a_law_sign ?l_law_sign ?c_law_sign ?k_law_sign ?a_law_text ?l_law_text ?c_law_text ?k_law_text ?a_law_picks ?l_law_picks ?c_law_picks ?k_law_picks ?a_law_put ?l_law_put ?c_law_put ?k_law_put ?a_law_cut ?l_law_cut ?c_law_cut ?k_law_cut ?a_law_number ?l_law_number ?c_law_number ?k_law_number ?a_law_splice_same ?l_law_splice_same ?c_law_splice_same ?k_law_splice_same ?a_law_same ?l_law_same ?c_law_same ?k_law_same ?a_law_done ?l_law_done ?c_law_done ?k_law_done ?a_law ?l_law ?c_law ?k_law ?aC_BadSplice ?xL_BadSplice ?sa_BadSplice ?ga_BadSplice ?gg_BadSplice ?na_BadSplice_at ?iC_BadSplice ?ti_BadSplice ?li_BadSplice ?ci_BadSplice ?ki_BadSplice ?kC_BadSplice ?eC_BadSplice ?tC_BadSplice ?hC_BadSplice ?yC_BadSplice ?sC_BadSplice ?v_ALPHABET ?z_abs ?z_bool ?z_enumerate ?z_int ?z_isinstance ?z_len ?z_max ?z_min ?z_range ?z_set ?z_sorted ?z_str ?z_sum ?z_tuple ?z_zip
    (case a_low_high => k_is)
    (case l_low_high => k_is)
    (case c_low_high => k_is)
    (case k_low_high => k_is)
    (case a_joined_stretches => k_is)
    (case l_joined_stretches => k_is)
    (case c_joined_stretches => k_is)
    (case k_joined_stretches => k_is)
    (case a_put_texts => k_is)
    (case l_put_texts => k_is)
    (case c_put_texts => k_is)
    (case k_put_texts => k_is)
    (case a_put_round => k_is)
    (case l_put_round => k_is)
    (case c_put_round => k_is)
    (case k_put_round => k_is)
    (case a_cut_ahead => k_is)
    (case l_cut_ahead => k_is)
    (case c_cut_ahead => k_is)
    (case k_cut_ahead => k_is)
    (case a_cut_round => k_is)
    (case l_cut_round => k_is)
    (case c_cut_round => k_is)
    (case k_cut_round => k_is)
    (case a_back_cuts => k_is)
    (case l_back_cuts => k_is)
    (case c_back_cuts => k_is)
    (case k_back_cuts => k_is)
    (case a_ahead_cuts => k_is)
    (case l_ahead_cuts => k_is)
    (case c_ahead_cuts => k_is)
    (case k_ahead_cuts => k_is)
    (case a_first_strange => k_is)
    (case l_first_strange => k_is)
    (case c_first_strange => k_is)
    (case k_first_strange => k_is)
    (case a_is_text => k_is)
    (case l_is_text => k_is)
    (case c_is_text => k_is)
    (case k_is_text => k_is)
    (case a_is_number => k_is)
    (case l_is_number => k_is)
    (case c_is_number => k_is)
    (case k_is_number => k_is)
    (case a_is_splice => k_is)
    (case l_is_splice => k_is)
    (case c_is_splice => k_is)
    (case k_is_splice => k_is)
    (case a_follows => k_is)
    (case l_follows => k_is)
    (case c_follows => k_is)
    (case k_follows => k_is)
    (case a_check_round => k_is)
    (case l_check_round => k_is)
    (case c_check_round => k_is)
    (case k_check_round => k_is)
    (case a_spliced => k_is)
    (case l_spliced => k_is)
    (case c_spliced => k_is)
    (case k_spliced => k_is)
    (case a_law_draws => k_is)
    (case l_law_draws => k_is)
    (case c_law_draws => k_is)
    (case k_law_draws => k_is)
    (case a_law_take => k_is)
    (case l_law_take => k_is)
    (case c_law_take => k_is)
    (case k_law_take => k_is)
    (case a_law_sign => k_is)
    (case l_law_sign => k_is)
    (case c_law_sign => k_is)
    (case k_law_sign => k_is)
    (case a_law_text => k_is)
    (case l_law_text => k_is)
    (case c_law_text => k_is)
    (case k_law_text => k_is)
    (case a_law_picks => k_is)
    (case l_law_picks => k_is)
    (case c_law_picks => k_is)
    (case k_law_picks => k_is)
    (case a_law_put => k_is)
    (case l_law_put => k_is)
    (case c_law_put => k_is)
    (case k_law_put => k_is)
    (case a_law_cut => k_is)
    (case l_law_cut => k_is)
    (case c_law_cut => k_is)
    (case k_law_cut => k_is)
    (case a_law_number => k_is)
    (case l_law_number => k_is)
    (case c_law_number => k_is)
    (case k_law_number => k_is)
    (case a_law_splice_same => k_is)
    (case l_law_splice_same => k_is)
    (case c_law_splice_same => k_is)
    (case k_law_splice_same => k_is)
    (case a_law_same => k_is)
    (case l_law_same => k_is)
    (case c_law_same => k_is)
    (case k_law_same => k_is)
    (case a_law_done => k_is)
    (case l_law_done => k_is)
    (case c_law_done => k_is)
    (case k_law_done => k_is)
    (case a_law => k_is)
    (case l_law => k_is)
    (case c_law => k_is)
    (case k_law => k_is)
    (case aC_BadSplice => k_is)
    (case xL_BadSplice => k_is)
    (case sa_BadSplice => k_is)
    (case ga_BadSplice => k_is)
    (case gg_BadSplice => k_is)
    (case na_BadSplice_at => k_is)
    (case iC_BadSplice => k_is)
    (case ti_BadSplice => k_is)
    (case li_BadSplice => k_is)
    (case ci_BadSplice => k_is)
    (case ki_BadSplice => k_is)
    (case kC_BadSplice => k_is)
    (case eC_BadSplice => k_is)
    (case tC_BadSplice => k_is)
    (case hC_BadSplice => k_is)
    (case yC_BadSplice => k_is)
    (case sC_BadSplice => first | rfl | k_is)
    (case v_ALPHABET => k_is)
    (case z_abs => k_is)
    (case z_bool => k_is)
    (case z_enumerate => k_is)
    (case z_int => k_is)
    (case z_isinstance => k_is)
    (case z_len => k_is)
    (case z_max => k_is)
    (case z_min => k_is)
    (case z_range => k_is)
    (case z_set => k_is)
    (case z_sorted => k_is)
    (case z_str => k_is)
    (case z_sum => k_is)
    (case z_tuple => k_is)
    (case z_zip => k_is)

