import PyProof.Rows.All
import Wide.All
import OpenK.AllK
import Wide.FinOn
import HandS.ForMost
import HandS.Walk
import KE.GoesEnum
import HandS.Exc
import HandS.ExcOwn
import HandS.ExcInit
import HandS.ExcField
import HandS.TryOnly
import HandS.WordsExc
import HandS.IsInst
import HandS.Wide
import HandS.TupAny
import HandS.Flow
import HandS.Evl
import HandS.Deep
import HandS.Conv
import HandS.WideBits
import HandS.NoneIn
import HandS.Zip
import HandS.Rev
import PyProof.StrBlock2
import KE.DataMinMax
import HandS.SortRule
import KE.SortData
import KE.GoesZip
import KE.GoesMore
import KE.KRevSl
import HandS.Flt
import KE.KDictZip
import HandS.ExcIs
import KE.KExcIs
import PyProof.SeqIndex
import HandS.Small
import HandS.ListItems
import HandS.SetFor
import HandS.Iter
import HandS.Star
import HandS.StrMore
import HandS.Defaults
import PyProof.StrLawsLast
import HandS.SortInts
import HandS.Strs
import KE.KSortKey
import HandS.SortKw
import HandS.ReplaceLit
import HandS.ReplaceList
import HandS.HotCalls
import HandS.CallLocal
import HandS.MakeKwOnly
import HandS.DictComp
import HandS.TupLe
import HandS.More
import KE.KTypeName
import HandS.TupLen
import HandS.Dict
import HandS.TupMul
import PySem.Challenge.RW_deedstand_k63_paints_least
set_option Elab.async false
set_option linter.all false
set_option maxRecDepth 100000
set_option maxHeartbeats 4000000
/-! enumerate over a tuple and over a text, one argument -/
namespace Dk
open PySem PySem.Spec PyProof.Rows L2
/-- the object that enumerate(v) makes -/
abbrev enObj (it : Addr) : Obj := { cls := .type "enumerate", data := .fields #[.none, .bool false, .ref it, rawInt 0, .none, .none] }
theorem enum_new1 {v : Value} {o : Obj} {G : Heap → Prop} (B : Begins v o G) :
    Meets (Builtin.«enumerate.__new__» ⟨[.type "enumerate", v], []⟩) fun _ R s =>
      G s.heap ∧ R (.ok (.ret (.ref (s.heap.push o).objs.size))) { s with heap := (s.heap.push o).push (enObj s.heap.objs.size) } := by
  refine .of_wp fun prog w A R s hh => ?_
  rcases s with ⟨hp, gs, dr, tk, os⟩
  obtain ⟨hG, hR⟩ := hh
  have hs := sub_enumerate
  have go : ∀ {A' : Around} {E : Value → Shared → Prop} {Q : Value → Shared → Prop},
      Q (.ref hp.objs.size) ⟨hp.push o, gs, dr, tk, os⟩ → wpAny (model prog w) A' (pyIter v) Q E ⟨hp, gs, dr, tk, os⟩ :=
    fun q => B.iter prog w _ _ ⟨hp, gs, dr, tk, os⟩ _ hG q
  wp_walk using go
  refine wpAny_stack_any fun st => ?_
  refine wpAny_pure ?_
  split
  · rename_i c _ _ _ _ _
    cases (c == Value.type "enumerate") <;> (wp_walk using go; exact ⟨_, rfl, hR⟩)
  · wp_walk using go
    exact ⟨_, rfl, hR⟩
section
variable {prog : Program} {w : World} {A : Around} {E : Value → Shared → Prop} {s : Shared}
theorem enum_call1 {v : Value} {o : Obj} {G : Heap → Prop} {Q : Value → Shared → Prop} (B : Begins v o G) (hG : G s.heap)
    (q : ∀ h', IsEnum h' (s.heap.objs.size + 1) s.heap.objs.size 0 .none → h'.get? s.heap.objs.size = some o →
      (∀ b u, s.heap.get? b = some u → h'.get? b = some u) → Q (.ref (s.heap.objs.size + 1)) { s with heap := h' }) :
    wpAny (model prog w) A (call (.type "enumerate") [v]) Q E s := by
  have sz : (s.heap.push o).objs.size = s.heap.objs.size + 1 := Heap.size_push ..
  have he : IsEnum ((s.heap.push o).push (enObj s.heap.objs.size)) (s.heap.objs.size + 1) s.heap.objs.size 0 .none := by
    have z := Heap.get?_push_size (s.heap.push o) (o := enObj s.heap.objs.size) rfl
    rw [sz] at z
    exact z
  refine callType_new F.called_enumerate (by decide) (F.typeCall_enumerate_1 _) (F.newCall_enumerate_1 _)
    (fun obj => F.args_object_init_2 obj _) F.entry_enumerate_new (enum_new1 B) ⟨hG, ?_⟩
  show _ ∧ _
  rw [sz]
  exact ⟨⟨_, he, rfl⟩, q _ he (Heap.get?_push_of_some _ (Heap.get?_push_size _ B.free))
    fun b u z => Heap.get?_push_of_some _ (Heap.get?_push_of_some _ z)⟩
end
/-- a new pair of the turn's number and f i -/
def ItE (G : Hp → Prop) (n : Nat) (Y : Nat → Hp → V → Prop) : It :=
  ⟨fun i H => G H ∧ i < n, fun i H v H' => ∃ T x, v = .ref T ∧ H T = none ∧ H' = upd H T (.tup [.int (i : Nat), x]) ∧ Y i H x, fun i H => G H ∧ i = n⟩
/-- what the source's own iterator does while the heap is so -/
structure Src (P : Program) (w : World) (K : PySem.W.Frag) (it : Addr) (G : Hp → Prop) (n : Nat) (Y : Nat → Hp → V → Prop) (Tn : Nat → Heap → Prop) : Prop where
  live : ∀ i h, Tn i h → ∃ o, h.get? it = some o ∧ ∀ v, o.data ≠ .cell v
  keep : ∀ i h h', Tn i h → (∀ o, h.get? it = some o → h'.get? it = some o) → Tn i h'
  draw : ∀ (X : Cx), X.prog = P → X.w = w → X.K = K → ∀ (pins : List (Addr × Obj)) (σ : L2.St) (H : Hp) (s : Shared) (i : Nat), Inv X pins σ H s → H it = none → G H → Tn i s.heap → X.A.handled = none →
    ∃ (fp : List Addr) (Pv : Nat → Value → Prop) (St' : Nat → Heap → Prop), Draws P w X.A.in1 it fp n Pv St' ∧ St' i s.heap ∧ (∀ e, H e = none → (∃ old j, IsEnum s.heap e it j old) → e ∉ fp) ∧
      (∀ j u, Pv j u → ∃ x, RelV x u ∧ Y j H x) ∧ ∀ j h, St' j h → Tn j h
theorem turn_E {P : Program} {w : World} {K : PySem.W.Frag} {elts : List Expr} {kk : Nat} {tpos : Pos} {e it : Addr} {G : Hp → Prop} {n : Nat} {Y : Nat → Hp → V → Prop} {Tn : Nat → Heap → Prop} (S : Src P w K it G n Y Tn) :
    Turn P w K (.Tuple elts kk tpos) (ItE G n Y) [e, it] e (fun i h => (∃ old, IsEnum h e it ((i : Nat) : Int) old) ∧ Tn i h ∧ e ≠ it) where
  mem := List.mem_cons_self ..
  obj := fun i h st b hb => by
    obtain ⟨⟨old, he⟩, hs, _⟩ := st
    rcases List.mem_cons.mp hb with z | z
    · subst z
      exact ⟨_, he, fun v q => nomatch q⟩
    · have z' := List.mem_singleton.mp z
      subst z'
      exact S.live i h hs
  keep := fun i h h' st k =>
    ⟨⟨st.1.choose, k e (List.mem_cons_self ..) _ st.1.choose_spec⟩, S.keep i h h' st.2.1 fun o q => k it (List.mem_cons_of_mem _ (List.mem_singleton.mpr rfl)) o q, st.2.2⟩
  item := by
    intro X hP hw hK hc i pins s σ H E I hf st hg
    obtain ⟨⟨old, he⟩, hs, hne⟩ := st
    have fe := hf e (by simp)
    have fi := hf it (by simp)
    obtain ⟨fp, Pv, St', D, hs', hef, hy, back⟩ := S.draw X hP hw hK pins σ H s i I fi.1 hg.1 hs (I.ok.hd hc)
    subst hP hw hK
    have hel : e < s.heap.objs.size := Heap.lt_size he
    obtain ⟨oi, hoi, _⟩ := S.live i _ hs
    have hil : it < s.heap.objs.size := Heap.lt_size hoi
    refine wpAny_pyNext_enum_itemC D he hs' hg.2 hne (hef e fe.1 ⟨_, _, he⟩) fun u h' tk hu ho hst hT hsz hk => ?_
    refine ⟨_, rfl, wpAny_letOwnedTupleGo_enum (s := { s with heap := h', toks := tk + 1 }) ho fun h2 he2 sb => ?_⟩
    obtain ⟨x, rx, yx⟩ := hy i u hu
    have hT2 : h2.get? s.heap.objs.size = some { cls := .type "tuple", data := .seq #[.int i tk, u] } := (sb.2 _ (Nat.ne_of_gt hel)).trans hT
    have new : ObjOk X.prog X.w (upd H s.heap.objs.size (.tup [.int (i : Nat), x])) h2 s.heap.objs.size (.tup [.int (i : Nat), x]) :=
      ⟨by show 2 ≤ sizeLine; decide, [.int i tk, u], .cons ⟨_, rfl⟩ (.cons rx .nil), _, hT2, rfl, _, rfl⟩
    have I1 : Inv X pins σ (upd H s.heap.objs.size (.tup [.int (i : Nat), x])) { s with heap := h2, toks := tk + 1 } := by
      refine I.turnedNew (ch := [e, it]) (fun b o hb q => ?_) hf (Nat.le_refl _) new
      have n1 : b ≠ e := fun z => hb (by simp [z])
      have n2 : b ≠ it := fun z => hb (by simp [z])
      exact (sb.2 b n1).trans (hk b o n1 n2 q)
    refine ⟨.ref s.heap.objs.size, _, I1, rfl, ⟨_, x, rfl, I.hok.fresh (Nat.le_refl _), rfl, yx⟩, ⟨⟨u, ?_⟩, ?_, hne⟩, fun b hb => ?_⟩
    · have e1 : ((i + 1 : Nat) : Int) = (i : Int) + 1 := by omega
      rw [e1]
      exact he2
    · exact S.keep _ _ _ (back _ _ hst) fun o q => (sb.2 it (Ne.symm hne)).trans q
    · have hb' : b < s.heap.objs.size := by
        rcases List.mem_cons.mp hb with z | z
        · exact z ▸ hel
        · exact (List.mem_singleton.mp z) ▸ hil
      rw [upd_ne (Nat.ne_of_lt hb')]
      exact (hf b hb).1
  done := by
    intro X hP hw hK hc i pins s σ H E I hf st hg
    obtain ⟨⟨old, he⟩, hs, hne⟩ := st
    obtain ⟨f0, f1, f2, f3, f4, f5⟩ := hf it (by simp)
    obtain ⟨fp, Pv, St', D, hs', hef, hy, back⟩ := S.draw X hP hw hK pins σ H s i I f0 hg.1 hs (I.ok.hd hc)
    subst hP hw hK
    rw [hg.2] at hs'
    exact wpAny_pyNext_enum_endD D he hs' fun h' eb => ⟨rfl, I.turned (t' := s.toks) (fun b o hb q => eb b o hb q) f0 f1 f3 f4 f5⟩
  self := fun A i s Q E st h => wpAny_pyIter_enum st.1.choose_spec h
theorem src_tup {P : Program} {w : World} {K : PySem.W.Frag} {a it : Addr} {xs : List V} :
    Src P w K it (fun H => SqT K H a xs) xs.length (fun i _ x => xs[i]? = some x) (fun i h => h.IsTupleIter it a i) where
  live := fun i h st => by
    obtain ⟨o, e, c, d⟩ := st
    exact ⟨o, e, fun v z => by rw [d] at z; cases z⟩
  keep := fun i h h' st k => st.at fun o e => k o e
  draw := by
    intro X hP hw hK pins σ H s i I hn hG st hh
    subst hP hw hK
    obtain ⟨its, rv, p, hz⟩ := I.tuple hG
    have pt : s.heap.IsTuple a its.toArray := p
    have hne : a ≠ it := by
      rintro rfl
      obtain ⟨o, e, c, _⟩ := pt
      obtain ⟨o', e', c', _⟩ := id st
      rw [e] at e'
      cases e'
      rw [c] at c'
      injection c' with q
      exact absurd q (by decide)
    have hl := rv.length
    refine ⟨[it, a], fun i v => its.toArray[i]? = some v, fun i h => h.IsTupleIter it a i ∧ h.IsTuple a its.toArray, ?_, ⟨st, pt⟩, fun e he hq => ?_, fun j u hu => ?_, fun j h z => z.1⟩
    · have D := Draws.tuple (prog := X.prog) (w := X.w) (A := X.A.in1) hh it a hne its.toArray
      rw [show its.toArray.size = xs.length by simp; omega] at D
      exact D
    · obtain ⟨old, j, hq⟩ := hq
      intro hm
      rcases List.mem_cons.mp hm with z | z
      · subst z
        obtain ⟨o, e', c, _⟩ := id st
        have hq' : s.heap.get? e = _ := hq
        rw [e'] at hq'
        cases hq'
        injection c with q
        exact absurd q (by decide)
      · have z' := List.mem_singleton.mp z
        subst z'
        obtain ⟨o, e', c, _⟩ := pt
        have hq' : s.heap.get? e = _ := hq
        rw [e'] at hq'
        cases hq'
        injection c with q
        exact absurd q (by decide)
    · have hu' : its[j]? = some u := by simpa using hu
      have hj : j < its.length := (List.getElem?_eq_some_iff.mp hu').1
      have hx : xs[j]? = some (xs[j]'(by omega)) := List.getElem?_eq_getElem (by omega)
      obtain ⟨u', h1, h2⟩ := rv.get hx
      rw [hu'] at h1
      cases h1
      exact ⟨_, h2, hx⟩
theorem src_str {P : Program} {w : World} {K : PySem.W.Frag} {it : Addr} {z : Str} {t : Tok} :
    Src P w K it (fun _ => True) z.cps.size (fun i _ x => ∃ c, z.cps[i]? = some c ∧ x = .str ⟨#[c]⟩) (fun i h => h.IsStrIter it (strIterType z) z t i) where
  live := fun i h st => by
    obtain ⟨o, e, c, d⟩ := st
    exact ⟨o, e, fun v z => by rw [d] at z; cases z⟩
  keep := fun i h h' st k => by
    obtain ⟨o, e, r⟩ := st
    exact ⟨o, k o e, r⟩
  draw := by
    intro X hP hw hK pins σ H s i I hn hG st hh
    subst hP hw hK
    refine ⟨[it], _, _, Draws.text (prog := X.prog) (w := X.w) (A := X.A.in1) hh it z t, st, fun e he hq hm => ?_, fun j u hu => ?_, fun j h z => z⟩
    · obtain ⟨old, j, hq⟩ := hq
      have z' := List.mem_singleton.mp hm
      subst z'
      obtain ⟨o, e', c, _⟩ := id st
      have hq' : s.heap.get? e = _ := hq
      rw [e'] at hq'
      cases hq'
      have c' : strIterType z = "enumerate" := by injection c with q; exact q.symm
      unfold strIterType at c'
      split at c' <;> exact absurd c' (by decide)
    · obtain ⟨c, u', h1, h2⟩ := hu
      exact ⟨.str ⟨#[c]⟩, ⟨u', h2⟩, c, h1, rfl⟩
def iEnumT (K : PySem.W.Frag) (ta : TA) : TI := fun σ H R => ta σ H fun vs H1 => ∃ a xs, vs = [.ref a] ∧ SqT K H1 a xs ∧ R (ItE (fun H => SqT K H a xs) xs.length fun i _ x => xs[i]? = some x) H1
def iEnumS (ta : TA) : TI := fun σ H R => ta σ H fun vs H1 => ∃ z, vs = [.str z] ∧ R (ItE (fun _ => True) z.cps.size fun i _ x => ∃ c, z.cps[i]? = some c ∧ x = .str ⟨#[c]⟩) H1
section
variable {X : Cx} {e : Expr} {ta : TA} {p pos tpos : Pos} {elts : List Expr} {kk : Nat}
theorem pi_enumT (hg : Gl X "enumerate") (hm : X.mg "enumerate" = none) (ha : PA X [e] ta) (hs : starEach [e] X.env = [(false, eval e X.env)] := by rfl) :
    PI X (.Tuple elts kk tpos) (.Call (.Name "enumerate" p) [e] [] pos) (iEnumT X.K ta) := by
  refine ⟨fun pins s σ H R I h => Call_ (ld_blt I hg hm boot_enumerate (PyProof.Rows.callWith_type1 (thn (ha.run pos pins s σ H _ I h) fun us s1 hh => ?_) hs rfl))⟩
  obtain ⟨vs, H1, I1, r1, a, xs, rfl, hq, q⟩ := hh
  obtain ⟨u, rfl, rx⟩ := vals1 r1
  cases rx
  obtain ⟨its, rv, pt, hz⟩ := I1.tuple hq
  refine enum_call1 (begins_tuple a its.toArray) pt fun h' he hit hk => wpAny_pyIter_enum he ?_
  have I2 : Inv X pins σ H1 { s1 with heap := h' } := I1.kept (t' := s1.toks) hk
  refine ⟨s1.heap.objs.size + 1, [s1.heap.objs.size + 1, s1.heap.objs.size], _, _, H1, rfl, I2, turn_E src_tup, ⟨⟨.none, he⟩, ⟨_, hit, rfl, rfl⟩, Nat.succ_ne_self _⟩, fun b hb => ?_, q⟩
  have hle : s1.heap.objs.size ≤ b := by
    rcases List.mem_cons.mp hb with z | z
    · exact z ▸ Nat.le_add_right _ _
    · exact (List.mem_singleton.mp z) ▸ Nat.le_refl _
  exact I1.fpOk hle (I1.hok.fresh hle)
theorem pi_enumS (hg : Gl X "enumerate") (hm : X.mg "enumerate" = none) (ha : PA X [e] ta) (hs : starEach [e] X.env = [(false, eval e X.env)] := by rfl) :
    PI X (.Tuple elts kk tpos) (.Call (.Name "enumerate" p) [e] [] pos) (iEnumS ta) := by
  refine ⟨fun pins s σ H R I h => Call_ (ld_blt I hg hm boot_enumerate (PyProof.Rows.callWith_type1 (thn (ha.run pos pins s σ H _ I h) fun us s1 hh => ?_) hs rfl))⟩
  obtain ⟨vs, H1, I1, r1, z, rfl, q⟩ := hh
  obtain ⟨u, rfl, rx⟩ := vals1 r1
  obtain ⟨t, rfl⟩ := rx
  refine enum_call1 (begins_text z t) trivial fun h' he hit hk => wpAny_pyIter_enum he ?_
  have I2 : Inv X pins σ H1 { s1 with heap := h' } := I1.kept (t' := s1.toks) hk
  refine ⟨s1.heap.objs.size + 1, [s1.heap.objs.size + 1, s1.heap.objs.size], _, _, H1, rfl, I2, turn_E src_str, ⟨⟨.none, he⟩, ⟨_, hit, rfl, rfl⟩, Nat.succ_ne_self _⟩, fun b hb => ?_, q⟩
  have hle : s1.heap.objs.size ≤ b := by
    rcases List.mem_cons.mp hb with z | z
    · exact z ▸ Nat.le_add_right _ _
    · exact (List.mem_singleton.mp z) ▸ Nat.le_refl _
  exact I1.fpOk hle (I1.hok.fresh hle)
end
end Dk

/-! the layer: what grows, steps of readings -/
namespace Dk
open PySem PySem.Spec PyProof.Rows L2

/-! ### what is known grows -/
abbrev A0 : Addr → Prop := fun _ => False
abbrev Ex := Same
/-- G: what is known for good; H: the heap; A: what may change -/
structure Gr (A : Addr → Prop) (G H G' H' : Hp) : Prop where
  gg : Ex G G'
  gh : Ex G' H'
  hh : ∀ b o, ¬ A b → H b = some o → H' b = some o
  th : ∀ b o, H b = some o → ∃ o', H' b = some o'
  nw : ∀ b o, H b = some o → G b = none → G' b = none
section
variable {A : Addr → Prop} {G H G1 H1 G2 H2 : Hp} {p q m : Addr} {o o' u : HO}
theorem Gr.refl (g : Ex G H) : Gr A G H G H := ⟨Same.refl G, g, fun _ _ _ h => h, fun _ o h => ⟨o, h⟩, fun _ _ _ h => h⟩
theorem Gr.trans (a : Gr A G H G1 H1) (b : Gr A G1 H1 G2 H2) : Gr A G H G2 H2 :=
  ⟨a.gg.trans b.gg, b.gh, fun x o n h => b.hh x o n (a.hh x o n h), fun x o h => by
    obtain ⟨o1, h1⟩ := a.th x o h
    exact b.th x o1 h1, fun x o h n => by
    obtain ⟨o1, h1⟩ := a.th x o h
    exact b.nw x o1 h1 (a.nw x o h n)⟩
theorem Gr.wide {B : Addr → Prop} (a : Gr A G H G1 H1) (h : ∀ x, A x → B x) : Gr B G H G1 H1 :=
  ⟨a.gg, a.gh, fun x o n => a.hh x o fun z => n (h x z), a.th, a.nw⟩
theorem Gr.of0 (a : Gr A0 G H G1 H1) : Gr A G H G1 H1 := a.wide fun _ z => z.elim
theorem Gr.same (a : Gr A0 G H G1 H1) : Ex H H1 := fun b o h => a.hh b o (fun z => z) h
/-- a new object, known for good -/
theorem Gr.new (g : Ex G H) (hp : H p = none) : Gr A G H (upd G p o) (upd H p o) where
  gg := fun b x e => by
    rw [upd_ne (ne_of_none e (g.free hp))]
    exact e
  gh := fun b x e => by
    by_cases hb : b = p
    · subst hb
      rw [upd_same] at e ⊢
      exact e
    · rw [upd_ne hb] at e ⊢
      exact g b x e
  hh := fun b x _ e => by
    rw [upd_ne (ne_of_none e hp)]
    exact e
  th := fun b x e => ⟨x, by
    rw [upd_ne (ne_of_none e hp)]
    exact e⟩
  nw := fun b x e n => by
    rw [upd_ne (ne_of_none e hp)]
    exact n
/-- a new object of our own -/
theorem Gr.own (g : Ex G H) (hp : H p = none) : Gr A G H G (upd H p o) where
  gg := Same.refl G
  gh := fun b x e => by
    rw [upd_ne (ne_of_none e (g.free hp))]
    exact g b x e
  hh := fun b x _ e => by
    rw [upd_ne (ne_of_none e hp)]
    exact e
  th := fun b x e => ⟨x, by
    rw [upd_ne (ne_of_none e hp)]
    exact e⟩
  nw := fun b x e n => n
/-- an object of our own is written -/
theorem Gr.mut (t : Gr A G H G1 H1) (h0 : A p ∨ H p = none) (hp : G1 p = none) : Gr A G H G1 (upd H1 p o) where
  gg := t.gg
  gh := fun b x e => by
    rw [upd_ne (ne_of_none e hp)]
    exact t.gh b x e
  hh := fun b x n e => by
    have hb : b ≠ p := fun z => by
      subst z
      rcases h0 with h0 | h0
      · exact n h0
      · rw [h0] at e
        cases e
    rw [upd_ne hb]
    exact t.hh b x n e
  th := fun b x e => by
    by_cases hb : b = p
    · exact ⟨o, by rw [hb, upd_same]⟩
    · rw [upd_ne hb]
      exact t.th b x e
  nw := t.nw
/-- an object of our own is known for good from here on -/
theorem Gr.give (t : Gr A G H G1 H1) (h0 : H p = none) (hp : H1 p = some o) (hn : G1 p = none) : Gr A G H (upd G1 p o) H1 where
  gg := fun b x e => by
    have z := t.gg b x e
    rw [upd_ne (ne_of_none z hn)]
    exact z
  gh := fun b x e => by
    by_cases hb : b = p
    · subst hb
      rw [upd_same] at e
      cases e
      exact hp
    · rw [upd_ne hb] at e
      exact t.gh b x e
  hh := t.hh
  th := t.th
  nw := fun b x e n => by
    have hb : b ≠ p := ne_of_none e h0
    rw [upd_ne hb]
    exact t.nw b x e n
theorem Gr.g0 (t : Gr A G H G1 H1) : Ex G H1 := t.gg.trans t.gh
theorem ne_g (h : G p = some o) (n : G q = none) : p ≠ q := ne_of_none h n
end

/-! ### what is read at an address -/
theorem SqL.up {K : PySem.W.Frag} {G G' : Hp} {a : Addr} {xs : List V} (e : Ex G G') (h : SqL K G a xs) : SqL K G' a xs := e.seq h
theorem SqT.up {K : PySem.W.Frag} {G G' : Hp} {a : Addr} {xs : List V} (e : Ex G G') (h : SqT K G a xs) : SqT K G' a xs := by
  rcases h with (h | ⟨o, h⟩) | h
  · exact .inl (.inl (e _ _ h))
  · exact .inl (.inr ⟨o, e _ _ h⟩)
  · exact .inr h
theorem sqL {K : PySem.W.Frag} {H : Hp} {a : Addr} {xs : List V} (h : H a = some (.lst xs)) : SqL K H a xs := .inl (.inl h)
theorem sqT {K : PySem.W.Frag} {H : Hp} {a : Addr} {xs : List V} (h : H a = some (.tup xs)) : SqT K H a xs := .inl (.inl h)

/-! ### unions of rules -/
def rStr2 : R2 := fun x y H Q => ∃ i j, x = .str i ∧ y = .str j ∧ i.length + j.length ≤ sizeLine ∧ Q (.str (i ++ j)) H
def rAddU (K : PySem.W.Frag) : R2 := fun x y H Q => rI0 (fun i j => .int (i + j)) x y H Q ∨ (rStr2 x y H Q ∨ (rCat x y H Q ∨ rCatA K x y H Q))
def rInS1 : R2 := fun x y H Q => ∃ (c : Nat) (z : Str), x = .str ⟨#[c]⟩ ∧ y = .str z ∧ Q (.bl (decide (c ∈ z.cps.toList))) H
def rNotInS1 : R2 := fun x y H Q => ∃ (c : Nat) (z : Str), x = .str ⟨#[c]⟩ ∧ y = .str z ∧ Q (.bl (!decide (c ∈ z.cps.toList))) H
def rInU (K : PySem.W.Frag) : R2 := fun x y H Q => rInS1 x y H Q ∨ rIn K false x y H Q
def rNotInU (K : PySem.W.Frag) : R2 := fun x y H Q => rNotInS1 x y H Q ∨ rIn K true x y H Q
def rEqU (K : PySem.W.Frag) : R2 := fun x y H Q => rEq x y H Q ∨ rEqD K x y H Q
def rNeU (K : PySem.W.Frag) : R2 := fun x y H Q => rNe x y H Q ∨ rNeD K x y H Q
def rSlU (K : PySem.W.Frag) : V → Option Int → Option Int → Hp → VK → Prop := fun x lo hi H Q => rSlS x lo hi H Q ∨ (rSlL K x lo hi H Q ∨ rSlA K x lo hi H Q)
def rLenU (K : PySem.W.Frag) : List V → Hp → VK → Prop := fun xs H Q => ∃ x n, xs = [x] ∧ LenV K x H n ∧ Q (.int (n : Nat)) H
def rInt1 : List V → Hp → VK → Prop := fun xs H Q => (∃ i, xs = [.int i] ∧ Q (.int i) H) ∨ ∃ k, xs = [.bl k] ∧ Q (.int (if k then 1 else 0)) H
def rMax : List V → Hp → VK → Prop := fun xs H Q => ∃ i j, xs = [.int i, .int j] ∧ Q (.int (if j > i then j else i)) H
def rMin : List V → Hp → VK → Prop := fun xs H Q => ∃ i j, xs = [.int i, .int j] ∧ Q (.int (if j < i then j else i)) H
def rListU (K : PySem.W.Frag) : List V → Hp → VK → Prop := fun xs H Q => ∃ p ys, xs = [.ref p] ∧ (SqL K H p ys ∨ SqT K H p ys) ∧ ∀ l, H l = none → Q (.ref l) (upd H l (.lst ys))
def rTupU (K : PySem.W.Frag) : List V → Hp → VK → Prop := fun xs H Q => ∃ p ys, xs = [.ref p] ∧ ((SqL K H p ys ∧ ∀ l, H l = none → Q (.ref l) (upd H l (.tup ys))) ∨ (SqT K H p ys ∧ Q (.ref p) H))
def rJoin (K : PySem.W.Frag) : V → List V → Hp → VK → Prop := fun x xs H Q => ∃ a p, ∃ ys : List Str, x = .str a ∧ xs = [.ref p] ∧ (SqL K H p (ys.map V.str) ∨ SqT K H p (ys.map V.str)) ∧
  (ys.map (·.length)).sum + ys.length * a.length ≤ 16777216 ∧ Q (.str (Txt.join a ys)) H
def rIsN1 : R2 := fun x y H Q => y = .non ∧ Q (.bl (decide (x = .non))) H
def rNotN1 : R2 := fun x y H Q => y = .non ∧ Q (.bl (!decide (x = .non))) H
def rDivW : R2 := rI CDivW fun i j => .int (i / j)
def rModP : R2 := rI (fun _ j => 0 < j) fun i j => .int (i % j)
def rMulW : R2 := rI CMulW fun i j => .int (i * j)
section
variable {X : Cx}
theorem op_addU : OpR X (binaryOp .Add) (rAddU X.K) := op_add.or (op_add_str.or (op_cat.or op_catA))
theorem op_inU : OpR X (compareOp .In) (rInU X.K) := op_in_sign.or op_in_seq
theorem op_notInU : OpR X (compareOp .NotIn) (rNotInU X.K) := op_notIn_sign.or op_notIn_seq
theorem op_eqU (hu : X.A.units + 64 < cLine) : OpR X (compareOp .Eq) (rEqU X.K) := op_eq.or (op_eqD hu)
theorem op_neU (hu : X.A.units + 64 < cLine) : OpR X (compareOp .NotEq) (rNeU X.K) := op_ne.or (op_neD hu)
theorem sl_U : SlR X (rSlU X.K) := sl_str.or (sl_list.or sl_tupA)
theorem call_lenU : CallR X (.builtin "len") (rLenU X.K) := call_len
theorem call_intU : CallR X (.type "int") rInt1 := call_int1
theorem call_maxU (hc : X.calm = true) : CallR X (.builtin "max") rMax := call_max2 hc
theorem call_minU (hc : X.calm = true) : CallR X (.builtin "min") rMin := call_min2 hc
theorem call_listU : CallR X (.type "list") (rListU X.K) := call_list_of
theorem call_tupU : CallR X (.type "tuple") (rTupU X.K) := call_tuple_of
theorem op_isU : OpR X (compareOp .Is) rIsN1 := op_isN
theorem op_isnotU : OpR X (compareOp .IsNot) rNotN1 := op_notN
theorem op_divW : OpR X (binaryOp .FloorDiv) rDivW := op_fdivW
theorem op_modP : OpR X (binaryOp .Mod) rModP := op_mod
theorem op_mulWW : OpR X (binaryOp .Mult) rMulW := op_mulW
end

/-! within a comprehension -/
section
variable {X : Cx} {K : PySem.W.Frag}
theorem k_add (h : X.K = K) : OpR X (binaryOp .Add) (rAddU K) := h ▸ op_addU
theorem k_in (h : X.K = K) : OpR X (compareOp .In) (rInU K) := h ▸ op_inU
theorem k_notIn (h : X.K = K) : OpR X (compareOp .NotIn) (rNotInU K) := h ▸ op_notInU
theorem k_ix (h : X.K = K) : IxR X (rIx K) := h ▸ ix_seq
theorem k_sl (h : X.K = K) : SlR X (rSlU K) := h ▸ sl_U
theorem k_len (h : X.K = K) : CallR X (.builtin "len") (rLenU K) := h ▸ call_lenU
theorem k_list (h : X.K = K) : CallR X (.type "list") (rListU K) := h ▸ call_listU
theorem k_tup (h : X.K = K) : CallR X (.type "tuple") (rTupU K) := h ▸ call_tupU
theorem k_isi (h : X.K = K) : CallR X (.builtin "isinstance") (rIsi K) := h ▸ call_isi
end
/-! ### steps -/
section
variable {K : PySem.W.Frag} {σ : L2.St} {H H' : Hp} {Q : VK} {v x y : V} {ta tb te : TE} {i j : Int} {D : Ends} {t u : TS} {tt tu : TT} {QB : Bool → Hp → Prop} {ar : TA} {QL : List V → Hp → Prop}
theorem r_var {n : Nat} (h : σ[n]? = some (some v)) (q : Q v H) : tVar n σ H Q := ⟨v, h, q⟩
theorem r_c (q : Q v H) : tC v σ H Q := q
theorem r_op {r : R2} (h : ta σ H fun x H1 => tb σ H1 fun y H2 => r x y H2 Q) : tOp r ta tb σ H Q := h
theorem r_un {r : V → Hp → VK → Prop} (h : ta σ H fun x H1 => r x H1 Q) : tUn r ta σ H Q := h
theorem r_I0 {g : Int → Int → V} (q : Q (g i j) H) : rI0 g (.int i) (.int j) H Q := ⟨i, j, rfl, rfl, q⟩
theorem r_I {C : Int → Int → Prop} {g : Int → Int → V} (c : C i j) (q : Q (g i j) H) : rI C g (.int i) (.int j) H Q := ⟨i, j, rfl, rfl, c, q⟩
theorem r_mulW (c : CMulW i j) (q : Q (.int (i * j)) H) : rMulW (.int i) (.int j) H Q := ⟨i, j, rfl, rfl, c, q⟩
theorem r_divW (c : CDivW i j) (q : Q (.int (i / j)) H) : rDivW (.int i) (.int j) H Q := ⟨i, j, rfl, rfl, c, q⟩
theorem r_modP (c : 0 < j) (q : Q (.int (i % j)) H) : rModP (.int i) (.int j) H Q := ⟨i, j, rfl, rfl, c, q⟩
theorem r_U {g : Int → V} (q : Q (g i) H) : rU g (.int i) H Q := ⟨i, rfl, q⟩
theorem r_addI (q : Q (.int (i + j)) H) : rAddU K (.int i) (.int j) H Q := .inl ⟨i, j, rfl, rfl, q⟩
theorem r_addS {a b : Str} (h : a.length + b.length ≤ sizeLine) (q : Q (.str (a ++ b)) H) : rAddU K (.str a) (.str b) H Q := .inr (.inl ⟨a, b, rfl, rfl, h, q⟩)
theorem r_addL {p q : Addr} {xs ys : List V} (hp : H p = some (.lst xs)) (hq : H q = some (.lst ys)) (hz : xs.length + ys.length ≤ sizeLine) (k : ∀ l, H l = none → Q (.ref l) (upd H l (.lst (xs ++ ys)))) : rAddU K (.ref p) (.ref q) H Q :=
  .inr (.inr (.inl ⟨p, q, xs, ys, rfl, rfl, hp, hq, hz, k⟩))
theorem r_sub (q : Q (.int (i - j)) H) : rI0 (fun i j => .int (i - j)) (.int i) (.int j) H Q := ⟨i, j, rfl, rfl, q⟩
theorem r_inS {c : Nat} {z : Str} (q : Q (.bl (decide (c ∈ z.cps.toList))) H) : rInU K (.str ⟨#[c]⟩) (.str z) H Q := .inl ⟨c, z, rfl, rfl, q⟩
theorem r_niS {c : Nat} {z : Str} (q : Q (.bl (!decide (c ∈ z.cps.toList))) H) : rNotInU K (.str ⟨#[c]⟩) (.str z) H Q := .inl ⟨c, z, rfl, rfl, q⟩
theorem r_eq (h : scal x y = true) (q : Q (.bl (decide (x = y))) H) : rEqU K x y H Q := .inl ⟨h, q⟩
theorem r_ne (h : scal x y = true) (q : Q (.bl (!decide (x = y))) H) : rNeU K x y H Q := .inl ⟨h, q⟩
theorem r_isN (q : Q (.bl (decide (x = .non))) H) : rIsN1 x .non H Q := ⟨rfl, q⟩
theorem r_notN (q : Q (.bl (!decide (x = .non))) H) : rNotN1 x .non H Q := ⟨rfl, q⟩
theorem r_ixL {p : Addr} {xs : List V} (h : SqL K H p xs) (a : atI xs i = some v) (q : Q v H) : rIx K (.ref p) (.int i) H Q := .inl ⟨p, xs, i, v, rfl, rfl, h, a, q⟩
theorem r_ixT {p : Addr} {xs : List V} (h : SqT K H p xs) (a : atI xs i = some v) (q : Q v H) : rIx K (.ref p) (.int i) H Q := .inr (.inl ⟨p, xs, i, v, rfl, rfl, h, a, q⟩)
theorem r_ixS {z : Str} {c : Nat} (h : z.length ≤ sizeLine) (a : atI z.cps.toList i = some c) (q : Q (.str ⟨#[c]⟩) H) : rIx K (.str z) (.int i) H Q := .inr (.inr ⟨z, i, c, rfl, rfl, h, a, q⟩)
theorem r_slS {z : Str} {lo hi : Option Int} (h : z.length ≤ sizeLine) (q : Q (.str (cutS z lo hi)) H) : rSlU K (.str z) lo hi H Q := .inl ⟨z, rfl, h, q⟩
theorem r_slL {p : Addr} {xs : List V} {lo hi : Option Int} (h : SqL K H p xs) (q : ∀ l, H l = none → Q (.ref l) (upd H l (.lst (cutV xs lo hi)))) : rSlU K (.ref p) lo hi H Q := .inr (.inl ⟨p, xs, rfl, h, q⟩)
theorem r_lenS {z : Str} (h : z.length ≤ sizeLine) (q : Q (.int (z.length : Nat)) H) : rLenU K [.str z] H Q := ⟨_, _, rfl, ⟨h, rfl⟩, q⟩
theorem r_lenL {p : Addr} {xs : List V} (h : SqL K H p xs) (q : Q (.int (xs.length : Nat)) H) : rLenU K [.ref p] H Q := ⟨_, _, rfl, .inl ⟨xs, h, rfl⟩, q⟩
theorem r_lenT {p : Addr} {xs : List V} (h : SqT K H p xs) (q : Q (.int (xs.length : Nat)) H) : rLenU K [.ref p] H Q := ⟨_, _, rfl, .inr ⟨xs, h, rfl⟩, q⟩
theorem r_int (q : Q (.int i) H) : rInt1 [.int i] H Q := .inl ⟨i, rfl, q⟩
theorem r_max (q : Q (.int (max i j)) H) : rMax [.int i, .int j] H Q := ⟨i, j, rfl, by
  have e : (if j > i then j else i) = max i j := by omega
  rw [e]
  exact q⟩
theorem r_min (q : Q (.int (min i j)) H) : rMin [.int i, .int j] H Q := ⟨i, j, rfl, by
  have e : (if j < i then j else i) = min i j := by omega
  rw [e]
  exact q⟩
theorem r_listL {p : Addr} {xs : List V} (h : SqL K H p xs) (q : ∀ l, H l = none → Q (.ref l) (upd H l (.lst xs))) : rListU K [.ref p] H Q := ⟨p, xs, rfl, .inl h, q⟩
theorem r_listT {p : Addr} {xs : List V} (h : SqT K H p xs) (q : ∀ l, H l = none → Q (.ref l) (upd H l (.lst xs))) : rListU K [.ref p] H Q := ⟨p, xs, rfl, .inr h, q⟩
theorem r_tupL {p : Addr} {xs : List V} (h : SqL K H p xs) (q : ∀ l, H l = none → Q (.ref l) (upd H l (.tup xs))) : rTupU K [.ref p] H Q := ⟨p, xs, rfl, .inl ⟨h, q⟩⟩
theorem r_tupT {p : Addr} {xs : List V} (h : SqT K H p xs) (q : Q (.ref p) H) : rTupU K [.ref p] H Q := ⟨p, xs, rfl, .inr ⟨h, q⟩⟩
theorem r_isi {n a : String} {b : Bool} (ty : TyX K H x (.type a)) (e : kitB a n = some b) (q : Q (.bl b) H) : rIsi K [x, .ty n] H Q := ⟨x, .ty n, .type a, .type n, b, rfl, .ty n, ty, kit_ty e, q⟩
theorem r_nil (q : QL [] H) : tNil σ H QL := q
theorem r_cons (h : ta σ H fun x H1 => ar σ H1 fun xs H2 => QL (x :: xs) H2) : tCons ta ar σ H QL := h
theorem r_tup (h : ar σ H fun xs H1 => xs.length ≤ sizeLine ∧ ∀ p, H1 p = none → Q (.ref p) (upd H1 p (.tup xs))) : tTup ar σ H Q := h
theorem r_lst (h : ar σ H fun xs H1 => xs.length ≤ sizeLine ∧ ∀ p, H1 p = none → Q (.ref p) (upd H1 p (.lst xs))) : tLst ar σ H Q := h
theorem r_small {xs : List V} {P : Prop} (h : xs.length ≤ 1000) (k : P) : xs.length ≤ sizeLine ∧ P := ⟨Nat.le_of_lt (small1000 h), k⟩
theorem r_CB {r : List V → Hp → VK → Prop} (h : ar σ H fun vs H1 => r vs H1 Q) : tCB r ar σ H Q := h
theorem r_call {sp : Sp} {dvs : List V} {E : XK} (h : ar σ H fun vs H1 => sp (vs ++ dvs) H1 Q E) : tCall sp dvs E ar σ H Q := h
theorem r_callS {sp : Sp} {E : L2.St → XK} (h : ar σ H fun vs H1 => sp vs H1 Q (E σ)) : tCallS sp E ar σ H Q := h
theorem r_bl {b : Bool} (q : QB b H) : ∃ k, V.bl b = .bl k ∧ QB k H := ⟨b, rfl, q⟩
theorem r_test (h : te σ H fun x H1 => ∃ k, x = .bl k ∧ QB k H1) : tTest te σ H QB := h
theorem r_B (h : te σ H fun x H1 => ∃ k, x = .bl k ∧ QB k H1) : tB te σ H QB := h
theorem r_and (h : tt σ H fun c H1 => if c = true then tu σ H1 QB else QB false H1) : tAnd tt tu σ H QB := h
theorem r_andB {b1 b2 : Bool} (h1 : ∀ QB : Bool → Hp → Prop, QB b1 H → tt σ H QB) (h2 : b1 = true → ∀ QB : Bool → Hp → Prop, QB b2 H → tu σ H QB) (k : QB (b1 && b2) H) : tAnd tt tu σ H QB := by
  refine h1 _ ?_
  cases b1 with
  | true => exact h2 rfl _ k
  | false => exact k
theorem r_orB {b1 b2 : Bool} (h1 : ∀ QB : Bool → Hp → Prop, QB b1 H → tt σ H QB) (h2 : b1 = false → ∀ QB : Bool → Hp → Prop, QB b2 H → tu σ H QB) (k : QB (b1 || b2) H) : tOr tt tu σ H QB := by
  refine h1 _ ?_
  cases b1 with
  | true => exact k
  | false => exact h2 rfl _ k
theorem r_or (h : tt σ H fun c H1 => if c = true then QB true H1 else tu σ H1 QB) : tOr tt tu σ H QB := h
theorem r_not (h : tt σ H fun c H1 => QB (!c) H1) : tNot tt σ H QB := h
theorem r_andV (h : ta σ H fun x H1 => ∃ c, x = .bl c ∧ if c = true then tb σ H1 Q else Q (.bl false) H1) : tAndV ta tb σ H Q := h
theorem r_orV (h : ta σ H fun x H1 => ∃ c, x = .bl c ∧ if c = true then Q (.bl true) H1 else tb σ H1 Q) : tOrV ta tb σ H Q := h
theorem r_notV (h : ta σ H fun x H1 => ∃ c, x = .bl c ∧ Q (.bl (!c)) H1) : tNotV ta σ H Q := h
theorem r_ifE (h : tt σ H fun c H1 => if c = true then ta σ H1 Q else tb σ H1 Q) : tIf tt ta tb σ H Q := h
theorem r_blv {b : Bool} {P : Bool → Prop} (q : P b) : ∃ c, V.bl b = .bl c ∧ P c := ⟨b, rfl, q⟩
theorem r_sl {r : V → Option Int → Option Int → Hp → VK → Prop} {tl th : TO} (h : te σ H fun x H1 => tl σ H1 fun l H2 => th σ H2 fun u H3 => r x l u H3 Q) : tSl r te tl th σ H Q := h
theorem r_seq (h : t { D with nx := u D } σ H) : tSeq t u D σ H := h
theorem r_next (q : D.nx σ H) : tNext D σ H := q
theorem r_asg {g : TG} (h : te σ H fun x H1 => g x σ H1 D.nx) : tAsg te g D σ H := h
theorem r_gname {n : Nat} {N : L2.St → Hp → Prop} (q : N (σ.set n (some v)) H) : gName n v σ H N := q
theorem r_ret (h : te σ H D.rt) : tRet te D σ H := h
theorem r_retN (h : D.rt .non H) : tRetN D σ H := h
theorem r_drop (h : te σ H fun _ H1 => D.nx σ H1) : tDrop te D σ H := h
theorem r_ifS (h : tt σ H fun b H1 => if b = true then t D σ H1 else u D σ H1) : tIfS tt t u D σ H := h
theorem r_app {p : Addr} {xs : List V} (h : H p = some (.lst xs)) (z : xs.length < sizeLine) (q : Q .non (upd H p (.lst (xs ++ [v])))) : rAppend (.ref p) [v] H Q := ⟨p, xs, v, rfl, rfl, h, z, q⟩
theorem r_bm {T : String} {r : V → List V → Hp → VK → Prop} (h : te σ H fun x H1 => tyV K T x H1 ∧ ar σ H1 fun xs H2 => r x xs H2 Q) : tBM K T r te ar σ H Q := h
theorem r_tyL {p : Addr} {xs : List V} {P : Prop} (h : SqL K H p xs) (k : P) : tyV K "list" (.ref p) H ∧ P := ⟨.inl ⟨rfl, xs, h⟩, k⟩
theorem r_setL {p : Addr} {xs : List V} {n : Nat} {N : Hp → Prop} (h : H p = some (.lst xs)) (a : ixN xs.length i = some n) (q : N (upd H p (.lst (xs.set n v)))) : rSetL (.ref p) (.int i) v H N := ⟨p, xs, i, n, rfl, rfl, h, a, q⟩
theorem r_gsub {ti : TE} {to : TE} {ts : TSet} {N : L2.St → Hp → Prop} (h : to σ H fun o H1 => ti σ H1 fun i H2 => ts o i v H2 fun H3 => N σ H3) : gSub to ti ts v σ H N := h
theorem r_ite {c A B : Prop} [Decidable c] (h1 : c → A) (h2 : ¬ c → B) : if decide c = true then A else B := by
  by_cases h : c
  · rw [if_pos (decide_eq_true h)]
    exact h1 h
  · rw [if_neg (by rw [decide_eq_false h]; decide)]
    exact h2 h
theorem r_iteN {c A B : Prop} [Decidable c] (h1 : ¬ c → A) (h2 : c → B) : if (!decide c) = true then A else B := by
  by_cases h : c
  · rw [if_neg (by rw [decide_eq_true h]; decide)]
    exact h2 h
  · rw [if_pos (by rw [decide_eq_false h]; rfl)]
    exact h1 h
theorem r_iteB {b : Bool} {A B : Prop} (h1 : b = true → A) (h2 : b = false → B) : if b = true then A else B := by
  cases b with
  | true => exact h1 rfl
  | false => exact h2 rfl
theorem r_itt {A B : Prop} (h : A) : if true = true then A else B := by
  rw [if_pos rfl]
  exact h
theorem r_iff {A B : Prop} (h : B) : if false = true then A else B := by
  rw [if_neg Bool.false_ne_true]
  exact h
theorem r_ittD {b : Bool} {A B : Prop} (e : b = true) (h : A) : if b = true then A else B := by
  rw [if_pos e]
  exact h
theorem r_iffD {b : Bool} {A B : Prop} (e : b = false) (h : B) : if b = true then A else B := by
  rw [e]
  exact r_iff h
theorem r_ittN {A B : Prop} (h : A) : if (!false) = true then A else B := r_itt h
theorem r_iffN {A B : Prop} (h : B) : if (!true) = true then A else B := r_iff h
end

/-! ### growth, further -/
section
variable {A : Addr → Prop} {G H G1 H1 G2 H2 : Hp} {p q m : Addr} {o o' u : HO} {K : PySem.W.Frag} {xs : List V} {Q : VK}
theorem Gr.ex (g : Ex G H) (e : Ex H H1) : Gr A G H G H1 := ⟨Same.refl G, g.trans e, fun b o _ h => e b o h, fun b o h => ⟨o, e b o h⟩, fun _ _ _ n => n⟩
/-- a step of one that leaves everything as it was -/
theorem Gr.then (t : Gr A G H G1 H1) (e : Ex H1 H2) : Gr A G H G1 H2 := t.trans (.ex t.gh e)
theorem Gr.none_of (t : Gr A G H G1 H1) (h : H p = some o) (n : G p = none) : G1 p = none := t.nw p o h n
/-- a new tuple, known for good -/
theorem a_tup (g : Ex G H) (hl : xs.length ≤ 1000) (k : ∀ p G' H', Gr A0 G H G' H' → G' p = some (.tup xs) → H p = none → Q (.ref p) H') :
    xs.length ≤ sizeLine ∧ ∀ p, H p = none → Q (.ref p) (upd H p (.tup xs)) :=
  ⟨Nat.le_of_lt (small1000 hl), fun p hp => k p _ _ (Gr.new g hp) upd_same hp⟩
theorem a_lst (g : Ex G H) (hl : xs.length ≤ 1000) (k : ∀ p G' H', Gr A0 G H G' H' → G' p = some (.lst xs) → H p = none → Q (.ref p) H') :
    xs.length ≤ sizeLine ∧ ∀ p, H p = none → Q (.ref p) (upd H p (.lst xs)) :=
  ⟨Nat.le_of_lt (small1000 hl), fun p hp => k p _ _ (Gr.new g hp) upd_same hp⟩
/-- a new list of our own -/
theorem a_own (g : Ex G H) (hl : xs.length ≤ 1000) (k : ∀ p H', Gr A0 G H G H' → H' p = some (.lst xs) → H p = none → G p = none → Q (.ref p) H') :
    xs.length ≤ sizeLine ∧ ∀ p, H p = none → Q (.ref p) (upd H p (.lst xs)) :=
  ⟨Nat.le_of_lt (small1000 hl), fun p hp => k p _ (Gr.own g hp) upd_same hp (g.free hp)⟩
theorem n_tup (g : Ex G H) (k : ∀ p G' H', Gr A0 G H G' H' → G' p = some (.tup xs) → H p = none → Q (.ref p) H') :
    ∀ p, H p = none → Q (.ref p) (upd H p (.tup xs)) := fun p hp => k p _ _ (Gr.new g hp) upd_same hp
theorem n_lst (g : Ex G H) (k : ∀ p G' H', Gr A0 G H G' H' → G' p = some (.lst xs) → H p = none → Q (.ref p) H') :
    ∀ p, H p = none → Q (.ref p) (upd H p (.lst xs)) := fun p hp => k p _ _ (Gr.new g hp) upd_same hp
theorem n_own (g : Ex G H) (k : ∀ p H', Gr A0 G H G H' → H' p = some (.lst xs) → H p = none → G p = none → Q (.ref p) H') :
    ∀ p, H p = none → Q (.ref p) (upd H p (.lst xs)) := fun p hp => k p _ (Gr.own g hp) upd_same hp (g.free hp)
end
/-! ### raising a class of one field -/
section
variable {K : PySem.W.Frag} {σ : L2.St} {H : Hp} {C : Addr} {f : Str} {v : V} {W : XK}
/-- the promise of its __init__ -/
def spInit1 (C : Addr) (f : Str) : Sp := fun vs H Q _ => ∃ (a : Addr) (v : V), vs = [.ref a, v] ∧ H a = some (exo a C none) ∧
  ∀ dx, H dx = none → dx ≠ a → Q .non (upd (upd H dx (exd dx [(f, v)])) a (exo a C (some dx)))
theorem r_raise1 (q : ∀ d, H d = none → W (.ref C) (some d) (upd H d (.xd [(f, v)]))) :
    ([v] : List V).length ≤ 1000 ∧ ∀ a, H a = none → spInit1 C f (.ref a :: ([v] ++ [])) (upd H a (exo a C none))
      (fun v H2 => v = .non ∧ ∃ (d : Addr) (fs : List (Str × V)), H2 a = some (exo a C (some d)) ∧ H2 d = some (exd d fs) ∧ H d = none ∧ W (.ref C) (some d) (upd (del H2 a) d (.xd fs))) (fun _ _ _ => False) := by
  refine ⟨by show 1 ≤ 1000; decide, fun a ha => ⟨a, v, rfl, upd_same, fun dx hdx hne => ⟨rfl, dx, [(f, v)], upd_same, ?_, ?_, ?_⟩⟩⟩
  · rw [upd_ne hne]
    exact upd_same
  · rw [upd_ne hne] at hdx
    exact hdx
  · rw [upd_ne hne] at hdx
    have e : upd (del (upd (upd (upd H a (exo a C none)) dx (exd dx [(f, v)])) a (exo a C (some dx))) a) dx (.xd [(f, v)]) = upd H dx (.xd [(f, v)]) := by
      funext b
      by_cases h1 : b = dx
      · rw [h1, upd_same, upd_same]
      · rw [upd_ne h1, upd_ne h1]
        by_cases h2 : b = a
        · rw [h2, del_same, ha]
        · rw [del_ne h2, upd_ne h2, upd_ne h1, upd_ne h2]
    rw [e]
    exact q dx hdx
end
theorem Same.mut {H H' : Hp} {p : Addr} {o : HO} (e : Ex H H') (h : H p = none) : Ex H (upd H' p o) := fun a u ha => by
  rw [upd_ne (ne_of_none ha h)]
  exact e a u ha
theorem Same.new {H H' : Hp} {p : Addr} {o : HO} (e : Ex H H') (h : H' p = none) : Ex H (upd H' p o) := fun a u ha => by
  rw [upd_ne (ne_of_none (e a u ha) h)]
  exact e a u ha
/-! ### texts by their codes -/
abbrev cs (z : Str) : List Nat := z.cps.toList
theorem cs_ext {a b : Str} (h : cs a = cs b) : a = b := by
  cases a
  cases b
  exact congrArg Str.mk (Array.toList_inj.mp h)
theorem cs_len (z : Str) : (cs z).length = z.length := Array.length_toList
theorem cs_app (a b : Str) : cs (a ++ b) = cs a ++ cs b := Array.toList_append
theorem cs_join : ∀ ys : List Str, cs (Txt.join "" ys) = (ys.map cs).flatten := fun ys => by
  rw [TL.join_eq]
  induction ys with
  | nil => rfl
  | cons y r ih =>
    cases r with
    | nil => simp [PySem.Str.join, cs]
    | cons x r' =>
      have e : PySem.Str.join "" (y :: x :: r') = y ++ "" ++ PySem.Str.join "" (x :: r') := rfl
      rw [e, cs_app, cs_app, ih]
      have e0 : cs ("" : Str) = [] := by decide
      rw [e0, List.append_nil]
      rfl
theorem cut_list (l : List Nat) (a b : Nat) : (l.drop (min a l.length)).take (min b l.length - min a l.length) = (l.drop a).take (b - a) := by
  by_cases h : a ≤ l.length
  · rw [Nat.min_eq_left h]
    by_cases hb : b ≤ l.length
    · rw [Nat.min_eq_left hb]
    · have hb' : l.length ≤ b := by omega
      rw [Nat.min_eq_right hb', List.take_of_length_le (by rw [List.length_drop]; omega), List.take_of_length_le (by rw [List.length_drop]; omega)]
  · have ha' : l.length ≤ a := by omega
    rw [Nat.min_eq_right ha', List.drop_of_length_le (Nat.le_refl _), List.drop_of_length_le ha', List.take_nil, List.take_nil]
theorem cs_cut (z : Str) (a b : Nat) : cs (cutS z (some (a : Int)) (some (b : Int))) = ((cs z).drop a).take (b - a) := by
  show ((z.cps.toList.drop (HT.sIx z.length 0 (some (a : Int)))).take (HT.sIx z.length z.length (some (b : Int)) - HT.sIx z.length 0 (some (a : Int)))) = _
  rw [HT.sIx_nat, HT.sIx_nat, ← cs_len z]
  exact cut_list _ a b
theorem cs_from (z : Str) (a : Nat) : cs (cutS z (some (a : Int)) none) = (cs z).drop a := by
  show ((z.cps.toList.drop (HT.sIx z.length 0 (some (a : Int)))).take (HT.sIx z.length z.length none - HT.sIx z.length 0 (some (a : Int)))) = _
  rw [HT.sIx_nat, HT.sIx_none, ← cs_len z]
  have h := cut_list (cs z) a (cs z).length
  rw [Nat.min_self] at h
  rw [h, List.take_of_length_le (by rw [List.length_drop]; omega)]
theorem cs_to (z : Str) (b : Nat) : cs (cutS z none (some (b : Int))) = (cs z).take b := by
  show ((z.cps.toList.drop (HT.sIx z.length 0 none)).take (HT.sIx z.length z.length (some (b : Int)) - HT.sIx z.length 0 none)) = _
  rw [HT.sIx_nat, HT.sIx_none, ← cs_len z]
  have h := cut_list (cs z) 0 b
  rw [Nat.zero_min] at h
  exact h
theorem cut_len (z : Str) (lo hi : Option Int) : (cutS z lo hi).length ≤ z.length := cutS_length z lo hi
theorem int_nat {i : Int} (h : 0 ≤ i) : i = ((i.toNat : Nat) : Int) := by omega
theorem at_g {α : Type} {xs : List α} {z : Int} {j : Nat} {v : α} (e : z = (j : Int)) (h : xs[j]? = some v) : atI xs z = some v := by
  rw [e]
  exact atI_nat h
theorem sum_ones {α : Type} : ∀ l : List α, (l.map fun _ => 1).sum = l.length
  | [] => rfl
  | _ :: r => by rw [List.map_cons, List.sum_cons, sum_ones r, List.length_cons, Nat.add_comm]
theorem nsz {xs : List V} (h : Nat.ble xs.length 1000 = true := by rfl) : xs.length ≤ 1000 := Nat.le_of_ble_eq_true h
/-! ### loops -/
section
variable {K : PySem.W.Frag} {σ : L2.St} {H : Hp} {tl : TE} {ta : TA} {g : TG} {tb : TS} {D : Ends}
theorem r_forT (h : tl σ H fun x H1 => ∃ (a : Addr) (xs : List V), x = .ref a ∧ SqT K H1 a xs ∧ ∃ Pv : Nat → L2.St → Hp → Prop, Pv 0 σ H1 ∧ (∀ i σ H, Pv i σ H → SqT K H a xs) ∧
    (∀ i x σ H, xs[i]? = some x → Pv i σ H → g x σ H fun σ2 H2 => tb { D with nx := Pv (i + 1), ct := Pv (i + 1), bk := D.nx } σ2 H2) ∧ ∀ σ H, Pv xs.length σ H → D.nx σ H)
    (mono : ∀ Q Q' : VK, (∀ v H, Q v H → Q' v H) → tl σ H Q → tl σ H Q') : tFor (iTup K tl) g tb D σ H := by
  refine mono _ _ (fun v H1 hh => ?_) h
  obtain ⟨a, xs, rfl, hs, Pv, p0, hl, ht, hd⟩ := hh
  exact ⟨a, rfl, ⟨xs, hs⟩, for_it walk_tup Pv p0 (fun i σ H _ p => hl i σ H p) (fun i x σ H H' hi p y => by
    obtain ⟨rfl, hx⟩ := y
    exact ht i x σ _ hx p) hd⟩
theorem r_forL (h : tl σ H fun x H1 => ∃ (a : Addr) (xs : List V), x = .ref a ∧ SqL K H1 a xs ∧ ∃ Pv : Nat → L2.St → Hp → Prop, Pv 0 σ H1 ∧ (∀ i σ H, Pv i σ H → SqL K H a xs) ∧
    (∀ i x σ H, xs[i]? = some x → Pv i σ H → g x σ H fun σ2 H2 => tb { D with nx := Pv (i + 1), ct := Pv (i + 1), bk := D.nx } σ2 H2) ∧ ∀ σ H, Pv xs.length σ H → D.nx σ H)
    (mono : ∀ Q Q' : VK, (∀ v H, Q v H → Q' v H) → tl σ H Q → tl σ H Q') : tFor (iList K tl) g tb D σ H := by
  refine mono _ _ (fun v H1 hh => ?_) h
  obtain ⟨a, xs, rfl, hs, Pv, p0, hl, ht, hd⟩ := hh
  exact ⟨a, rfl, ⟨xs, hs⟩, for_it walk_list Pv p0 (fun i σ H _ p => hl i σ H p) (fun i x σ H H' hi p y => by
    obtain ⟨rfl, hx⟩ := y
    exact ht i x σ _ hx p) hd⟩
theorem m_var {n : Nat} : ∀ Q Q' : VK, (∀ v H, Q v H → Q' v H) → tVar n σ H Q → tVar n σ H Q' := fun Q Q' h t => by
  obtain ⟨v, e, q⟩ := t
  exact ⟨v, e, h v _ q⟩
/-- over a name's list, tuple, text -/
theorem r_forTv {n : Nat} {a : Addr} {xs : List V} (e : σ[n]? = some (some (.ref a))) (hs : SqT K H a xs) (Pv : Nat → L2.St → Hp → Prop) (p0 : Pv 0 σ H) (hl : ∀ i σ H, Pv i σ H → SqT K H a xs)
    (ht : ∀ i x σ H, xs[i]? = some x → Pv i σ H → g x σ H fun σ2 H2 => tb { D with nx := Pv (i + 1), ct := Pv (i + 1), bk := D.nx } σ2 H2) (hd : ∀ σ H, Pv xs.length σ H → D.nx σ H) : tFor (iTup K (tVar n)) g tb D σ H :=
  r_forT ⟨_, e, a, xs, rfl, hs, Pv, p0, hl, ht, hd⟩ m_var
theorem r_forLv {n : Nat} {a : Addr} {xs : List V} (e : σ[n]? = some (some (.ref a))) (hs : SqL K H a xs) (Pv : Nat → L2.St → Hp → Prop) (p0 : Pv 0 σ H) (hl : ∀ i σ H, Pv i σ H → SqL K H a xs)
    (ht : ∀ i x σ H, xs[i]? = some x → Pv i σ H → g x σ H fun σ2 H2 => tb { D with nx := Pv (i + 1), ct := Pv (i + 1), bk := D.nx } σ2 H2) (hd : ∀ σ H, Pv xs.length σ H → D.nx σ H) : tFor (iList K (tVar n)) g tb D σ H :=
  r_forL ⟨_, e, a, xs, rfl, hs, Pv, p0, hl, ht, hd⟩ m_var
theorem r_forSv {n : Nat} {z : Str} (e : σ[n]? = some (some (.str z))) (Pv : Nat → L2.St → Hp → Prop) (p0 : Pv 0 σ H)
    (ht : ∀ i c σ H, (cs z)[i]? = some c → Pv i σ H → g (.str ⟨#[c]⟩) σ H fun σ2 H2 => tb { D with nx := Pv (i + 1), ct := Pv (i + 1), bk := D.nx } σ2 H2) (hd : ∀ σ H, Pv z.length σ H → D.nx σ H) : tFor (iStr (tVar n)) g tb D σ H := by
  refine ⟨_, e, z, rfl, for_it walk_str Pv p0 (fun _ _ _ _ _ => trivial) (fun i x σ H H' hi p y => ?_) hd⟩
  obtain ⟨rfl, c, hc, rfl⟩ := y
  exact ht i c σ _ (by rw [Array.getElem?_toList]; exact hc) p
theorem walk_E {G : Hp → Prop} {n : Nat} {Y : Nat → Hp → V → Prop} : Walk (ItE G n Y) n G (fun i H v H' => ∃ T x, v = .ref T ∧ H T = none ∧ H' = upd H T (.tup [.int (i : Nat), x]) ∧ Y i H x) :=
  ⟨fun i H hi g => ⟨g, hi⟩, fun H g => ⟨g, rfl⟩, fun i H x H' hi g y => y⟩
theorem r_forETv {n : Nat} {a : Addr} {xs : List V} (e : σ[n]? = some (some (.ref a))) (hs : SqT K H a xs) (Pv : Nat → L2.St → Hp → Prop) (p0 : Pv 0 σ H) (hl : ∀ i σ H, Pv i σ H → SqT K H a xs)
    (ht : ∀ i x σ H p, xs[i]? = some x → Pv i σ H → H p = none → g (.ref p) σ (upd H p (.tup [.int (i : Nat), x])) fun σ2 H2 => tb { D with nx := Pv (i + 1), ct := Pv (i + 1), bk := D.nx } σ2 H2)
    (hd : ∀ σ H, Pv xs.length σ H → D.nx σ H) : tFor (Dk.iEnumT K (tCons (tVar n) tNil)) g tb D σ H := by
  refine ⟨_, e, a, xs, rfl, hs, for_it walk_E Pv p0 (fun i σ H _ p => hl i σ H p) (fun i x σ H H' hi p y => ?_) hd⟩
  obtain ⟨T, x', rfl, hT, rfl, hx⟩ := y
  exact ht i x' σ H T hx p hT
theorem r_forESv {n : Nat} {z : Str} (e : σ[n]? = some (some (.str z))) (Pv : Nat → L2.St → Hp → Prop) (p0 : Pv 0 σ H)
    (ht : ∀ i c σ H p, (cs z)[i]? = some c → Pv i σ H → H p = none → g (.ref p) σ (upd H p (.tup [.int (i : Nat), .str ⟨#[c]⟩])) fun σ2 H2 => tb { D with nx := Pv (i + 1), ct := Pv (i + 1), bk := D.nx } σ2 H2)
    (hd : ∀ σ H, Pv z.length σ H → D.nx σ H) : tFor (Dk.iEnumS (tCons (tVar n) tNil)) g tb D σ H := by
  refine ⟨_, e, z, rfl, for_it walk_E Pv p0 (fun _ _ _ _ _ => trivial) (fun i x σ H H' hi p y => ?_) hd⟩
  obtain ⟨T, x', rfl, hT, rfl, c, hc, rfl⟩ := y
  exact ht i c σ H T (by rw [Array.getElem?_toList]; exact hc) p hT
/-- over range(n) -/
theorem r_forR1 (h : ta σ H fun vs H1 => ∃ n : Int, vs = [.int n] ∧ -1000000 ≤ n ∧ n ≤ 1000000 ∧ ∃ Pv : Nat → L2.St → Hp → Prop, Pv 0 σ H1 ∧
    (∀ (i : Nat) σ H, (i : Int) < n → Pv i σ H → g (.int (i : Nat)) σ H fun σ2 H2 => tb { D with nx := Pv (i + 1), ct := Pv (i + 1), bk := D.nx } σ2 H2) ∧ ∀ σ H, Pv n.toNat σ H → D.nx σ H)
    (mono : ∀ Q Q' : List V → Hp → Prop, (∀ v H, Q v H → Q' v H) → ta σ H Q → ta σ H Q') : tFor (iRng1 ta) g tb D σ H := by
  refine mono _ _ (fun v H1 hh => ?_) h
  obtain ⟨n, rfl, h1, h2, Pv, p0, ht, hd⟩ := hh
  refine ⟨n, rfl, by omega, by omega, for_range Pv p0 (fun i σ H hi p => ?_) hd⟩
  have z := ht i σ H (by omega) p
  rw [Int.zero_add]
  exact z
end
section
variable {K : PySem.W.Frag} {σ : L2.St} {H : Hp} {N : L2.St → Hp → Prop} {v : V} {vs : List V} {t : TG} {u : TGs}
theorem r_gtup {n : Nat} {a : Addr} (h : SqT K H a vs) (hl : vs.length = n) (k : u vs σ H N) : gTup K n u (.ref a) σ H N := ⟨a, vs, rfl, h, hl, k⟩
theorem r_gcons (k : t v σ H fun σ' H' => u vs σ' H' N) : gCons t u (v :: vs) σ H N := ⟨v, vs, rfl, k⟩
theorem r_gnil (k : N σ H) : gNil [] σ H N := ⟨rfl, k⟩
theorem r_mkO {C : Addr} {sp : Sp} {dvs : List V} {ta : TA} {Q : XK} (h : ta σ H fun vs H1 => vs.length ≤ 1000 ∧ ∀ a, H1 a = none → sp (.ref a :: (vs ++ dvs)) (upd H1 a (exo a C none))
  (fun v H2 => v = .non ∧ ∃ (d : Addr) (fs : List (Str × V)), H2 a = some (exo a C (some d)) ∧ H2 d = some (exd d fs) ∧ H1 d = none ∧ Q (.ref C) (some d) (upd (del H2 a) d (.xd fs))) (fun _ _ _ => False)) : tMkO C sp dvs ta σ H Q := h
theorem r_xfo {a C : Addr} {cls : Value} {d : Option Addr} {f : Str} {te : TE} {Q : VK} (h : te σ H fun x H1 => x = .ref a ∧ cls = .ref C ∧ ∃ (dd : Addr) (fs : List (Str × V)) (v : V), d = some dd ∧ H1 dd = some (.xd fs) ∧ fs.lookup f = some v ∧ Q v H1) : tXf a cls d C f te σ H Q := h
theorem r_noP {QO : Option Int → Hp → Prop} (q : QO none H) : tNoPart σ H QO := q
theorem r_part {te : TE} {QO : Option Int → Hp → Prop} (h : te σ H fun x H1 => ∃ i, x = .int i ∧ QO (some i) H1) : tPart te σ H QO := h
theorem r_pI {i : Int} {PO : Int → Prop} (q : PO i) : ∃ j, V.int i = .int j ∧ PO j := ⟨i, rfl, q⟩
end
/-! ### draws -/
def M61 : Int := 2305843009213693951
/-- the state of the draws stands at a -/
def Stt (H : Hp) (a : Addr) : Prop := ∃ z : Int, H a = some (.lst [.int z]) ∧ 0 ≤ z ∧ z < M61
theorem nat61 {z : Int} (h0 : 0 ≤ z) (h : z < M61) : z.natAbs < 2 ^ 61 := by
  unfold M61 at h
  have e : (2 : Nat) ^ 61 = 2305843009213693952 := by decide
  omega
/-- draws were made: the state at a turned, all else is as it was -/
structure Dr (a : Addr) (H H' : Hp) : Prop where
  hh : ∀ b o, b ≠ a → H b = some o → H' b = some o
  st : Stt H' a
section
variable {A : Addr → Prop} {a p : Addr} {G H G1 H1 H2 : Hp} {o : HO}
theorem Stt.up (s : Stt H a) (e : Ex H H1) : Stt H1 a := s.imp fun _ z => ⟨e _ _ z.1, z.2⟩
theorem Stt.ne (s : Stt H a) (h : H p = none) : p ≠ a := fun z => by
  obtain ⟨v, e, _⟩ := s
  rw [← z, h] at e
  cases e
theorem Stt.put (s : Stt H a) (h : p ≠ a) : Stt (upd H p o) a := s.imp fun _ z => ⟨by rw [upd_ne (Ne.symm h)]; exact z.1, z.2⟩
theorem Dr.refl (s : Stt H a) : Dr a H H := ⟨fun _ _ _ h => h, s⟩
theorem Dr.trans (x : Dr a H H1) (y : Dr a H1 H2) : Dr a H H2 := ⟨fun b o n h => y.hh b o n (x.hh b o n h), y.st⟩
theorem Dr.ex (s : Stt H a) (e : Ex H H1) : Dr a H H1 := ⟨fun b o _ h => e b o h, s.up e⟩
theorem Dr.then (x : Dr a H H1) (e : Ex H1 H2) : Dr a H H2 := x.trans (.ex x.st e)
theorem Dr.set {z : Int} (h0 : 0 ≤ z) (h : z < M61) : Dr a H (upd H a (.lst [.int z])) := ⟨fun b o n e => by rw [upd_ne n]; exact e, z, upd_same, h0, h⟩
theorem Dr.mut (x : Dr a H H1) (hp : H p = none) (ne : p ≠ a) : Dr a H (upd H1 p o) :=
  ⟨fun b u n e => by rw [upd_ne (ne_of_none e hp)]; exact x.hh b u n e, x.st.put ne⟩
theorem Dr.new (x : Dr a H H1) (hp : H1 p = none) : Dr a H (upd H1 p o) := x.then (Same.new (Same.refl H1) hp)
theorem Dr.gr (g : Ex G H) (n : G a = none) (s : Stt H a) (d : Dr a H H1) : Gr (· = a) G H G H1 where
  gg := Same.refl G
  gh := fun b x e => d.hh b x (ne_of_none e n) (g b x e)
  hh := fun b x z e => d.hh b x z e
  th := fun b x e => by
    by_cases h : b = a
    · obtain ⟨v, z, _⟩ := d.st
      exact ⟨_, by rw [h]; exact z⟩
    · exact ⟨x, d.hh b x h e⟩
  nw := fun b x e z => z
theorem Gr.na (t : Gr A G H G1 H1) (n : G a = none) (s : Stt H a) : G1 a = none := by
  obtain ⟨z, e, _⟩ := s
  exact t.nw a _ e n
theorem Gr.dr (t : Gr (· = a) G H G1 H1) (n : G a = none) (s : Stt H a) (s1 : Stt H1 a) (d : Dr a H1 H2) : Gr (· = a) G H G1 H2 :=
  t.trans (Dr.gr t.gh (t.na n s) s1 d)
end
/-! ### the laws' own draws -/
def AL : Str := "\n !\"#$&'()*+,-./0123456789:;<=>?@ABCDEFGHIJKLMNOPQRSTUVWXYZ[\\]^_`abcdefghijklmnopqrstuvwxyz{|}~"
def InAL (z : Str) : Prop := ∀ c ∈ cs z, c ∈ cs AL
theorem AL_len : AL.length = 95 := by decide +kernel
def spDraw : Sp := fun vs H Q _ => ∃ (a : Addr) (n : Int), vs = [.ref a, .int n] ∧ Stt H a ∧ 0 < n ∧ ∀ (d : Int) H', 0 ≤ d → d < n → Dr a H H' → Q (.int d) H'
def spStart (K : PySem.W.Frag) : Sp := fun vs H Q _ => ∃ (s : Addr) (ns : List Int), vs = [.ref s] ∧ SqL K H s (ns.map V.int) ∧ ∀ p H', Ex H H' → H p = none → Stt H' p → Q (.ref p) H'
def spSigns : Sp := fun vs H Q _ => vs = [] ∧ Q (.str AL) H
def spText : Sp := fun vs H Q _ => ∃ (a : Addr) (n : Int), vs = [.ref a, .int n] ∧ Stt H a ∧ 0 ≤ n ∧ n ≤ 8000 ∧ ∀ o H', Dr a H H' → (o.length : Int) = n → InAL o → Q (.str o) H'
theorem mix_next {z : Int} (e : Int) : 0 ≤ e % M61 ∧ e % M61 < M61 := ⟨Int.emod_nonneg _ (by decide), Int.emod_lt_of_pos _ (by decide)⟩
/-! ### what is known at a place of a drawing def -/
structure Wd (a : Addr) (G H : Hp) : Prop where
  g : Ex G H
  na : G a = none
  st : Stt H a
section
variable {a p : Addr} {G H G1 H1 G2 H2 : Hp} {o : HO} {xs : List V} {Q : VK}
theorem Wd.step (x : Wd a G H) (t : Gr (· = a) G H G1 H1) (s : Stt H1 a) : Wd a G1 H1 := ⟨t.gh, t.na x.na x.st, s⟩
theorem Wd.pure (x : Wd a G H) (t : Gr A0 G H G1 H1) : Wd a G1 H1 := ⟨t.gh, t.na x.na x.st, x.st.up t.same⟩
theorem Wd.ex (x : Wd a G H) (e : Ex H H1) : Wd a G H1 := ⟨x.g.trans e, x.na, x.st.up e⟩
theorem Wd.dr (x : Wd a G H) (d : Dr a H H1) : Wd a G H1 := ⟨(Dr.gr x.g x.na x.st d).gh, x.na, d.st⟩
theorem Wd.gdr (x : Wd a G H) (d : Dr a H H1) : Gr (· = a) G H G H1 := Dr.gr x.g x.na x.st d
/-- a new list, known for good -/
theorem w_lst (x : Wd a G H) (k : ∀ p G' H', Gr A0 G H G' H' → Wd a G' H' → G' p = some (.lst xs) → Q (.ref p) H') :
    ∀ p, H p = none → Q (.ref p) (upd H p (.lst xs)) := fun p hp => k p _ _ (Gr.new x.g hp) (x.pure (Gr.new x.g hp)) upd_same
theorem w_tup (x : Wd a G H) (k : ∀ p G' H', Gr A0 G H G' H' → Wd a G' H' → G' p = some (.tup xs) → Q (.ref p) H') :
    ∀ p, H p = none → Q (.ref p) (upd H p (.tup xs)) := fun p hp => k p _ _ (Gr.new x.g hp) (x.pure (Gr.new x.g hp)) upd_same
end
theorem new_ex {G H : Hp} {p : Addr} (g : Ex G H) (hp : H p = none) (o : HO) : ∃ G' H', H' = upd H p o ∧ Gr A0 G H G' H' ∧ G' p = some o :=
  ⟨_, _, rfl, Gr.new g hp, upd_same⟩
theorem w_new {a p : Addr} {G H : Hp} (x : Wd a G H) (hp : H p = none) (o : HO) : ∃ G' H', H' = upd H p o ∧ Gr A0 G H G' H' ∧ Wd a G' H' ∧ G' p = some o :=
  ⟨_, _, rfl, Gr.new x.g hp, x.pure (Gr.new x.g hp), upd_same⟩
theorem atI_m1 {xs : List V} (h : xs ≠ []) : ∃ x, atI xs (-1) = some x ∧ x ∈ xs := by
  obtain ⟨l, y, rfl⟩ : ∃ l y, xs = l ++ [y] := ⟨_, _, (List.dropLast_concat_getLast h).symm⟩
  exact ⟨y, atI_last _ _, by simp⟩
theorem own_ex {G H : Hp} {p : Addr} (g : Ex G H) (hp : H p = none) (o : HO) : ∃ H', H' = upd H p o ∧ Gr A0 G H G H' ∧ H' p = some o ∧ G p = none :=
  ⟨_, rfl, Gr.own g hp, upd_same, g.free hp⟩
theorem Gr.fresh {A : Addr → Prop} {G H G1 H1 : Hp} {p : Addr} (t : Gr A G H G1 H1) (h : H1 p = none) : H p = none := by
  cases e : H p with
  | none => rfl
  | some o =>
    obtain ⟨o', z⟩ := t.th p o e
    rw [h] at z
    cases z
theorem ixN_nat {n : Nat} {i : Int} (h0 : 0 ≤ i) (h : i < (n : Int)) : ixN n i = some i.toNat := by
  unfold ixN
  rw [if_pos h0, if_pos h]
/-! loops whose source is reckoned -/
section
variable {K : PySem.W.Frag} {σ : L2.St} {H : Hp} {tl : TE} {ta : TA} {g : TG} {tb : TS} {D : Ends}
def LoopW (J : It) (g : TG) (tb : TS) (D : Ends) (σ : L2.St) (H1 : Hp) : Prop := ∃ W : Nat → Nat → L2.St → Hp → Prop, (∃ m, W 0 m σ H1) ∧ ∀ i m σ H, W i m σ H →
  (J.stop i H ∧ D.nx σ H) ∨ (J.go i H ∧ ∃ N : L2.St → Hp → Prop, (∀ σ' H', N σ' H' → ∃ m', m' < m ∧ W (i + 1) m' σ' H') ∧ ∀ x H', J.yld i H x H' → g x σ H' fun σ2 H2 => tb { D with nx := N, ct := N, bk := D.nx } σ2 H2)
theorem r_forLo (h : tl σ H fun x H1 => ∃ a, x = .ref a ∧ (∃ xs, SqL K H1 a xs) ∧ LoopW (Itl K a) g tb D σ H1) : tFor (iList K tl) g tb D σ H := h
theorem r_forTo (h : tl σ H fun x H1 => ∃ a, x = .ref a ∧ (∃ xs, SqT K H1 a xs) ∧ LoopW (Itt K a) g tb D σ H1) : tFor (iTup K tl) g tb D σ H := h
theorem r_forSo (h : tl σ H fun x H1 => ∃ z, x = .str z ∧ LoopW (Its z) g tb D σ H1) : tFor (iStr tl) g tb D σ H := h
theorem r_forRo (h : ta σ H fun vs H1 => ∃ j : Int, vs = [.int j] ∧ -(2 ^ 62) ≤ j ∧ j < 2 ^ 62 ∧ LoopW (Itr 0 j.toNat) g tb D σ H1) : tFor (iRng1 ta) g tb D σ H := h
theorem r_forR2o (h : ta σ H fun vs H1 => ∃ i j : Int, vs = [.int i, .int j] ∧ (-(2 ^ 62) ≤ i ∧ i < 2 ^ 62 ∧ -(2 ^ 62) ≤ j ∧ j < 2 ^ 62) ∧ LoopW (Itr i (j - i).toNat) g tb D σ H1) : tFor (iRng2 ta) g tb D σ H := h
theorem r_forEo (h : ta σ H fun vs H1 => ∃ a xs, vs = [.ref a] ∧ SqT K H1 a xs ∧ LoopW (ItE (fun H => SqT K H a xs) xs.length fun i _ x => xs[i]? = some x) g tb D σ H1) : tFor (Dk.iEnumT K ta) g tb D σ H := h
theorem r_forESo (h : ta σ H fun vs H1 => ∃ z, vs = [.str z] ∧ LoopW (ItE (fun _ => True) z.cps.size fun i _ x => ∃ c, z.cps[i]? = some c ∧ x = .str ⟨#[c]⟩) g tb D σ H1) : tFor (Dk.iEnumS ta) g tb D σ H := h
theorem l_L {a : Addr} {xs : List V} (hs : SqL K H a xs) (Pv : Nat → L2.St → Hp → Prop) (p0 : Pv 0 σ H) (hl : ∀ i σ H, Pv i σ H → SqL K H a xs)
    (ht : ∀ i x σ H, xs[i]? = some x → Pv i σ H → g x σ H fun σ2 H2 => tb { D with nx := Pv (i + 1), ct := Pv (i + 1), bk := D.nx } σ2 H2) (hd : ∀ σ H, Pv xs.length σ H → D.nx σ H) :
    ∃ b, V.ref a = .ref b ∧ (∃ xs, SqL K H b xs) ∧ LoopW (Itl K b) g tb D σ H :=
  ⟨a, rfl, ⟨xs, hs⟩, for_it walk_list Pv p0 (fun i σ H _ p => hl i σ H p) (fun i x σ H H' hi p y => by
    obtain ⟨rfl, hx⟩ := y
    exact ht i x σ _ hx p) hd⟩
theorem l_T {a : Addr} {xs : List V} (hs : SqT K H a xs) (Pv : Nat → L2.St → Hp → Prop) (p0 : Pv 0 σ H) (hl : ∀ i σ H, Pv i σ H → SqT K H a xs)
    (ht : ∀ i x σ H, xs[i]? = some x → Pv i σ H → g x σ H fun σ2 H2 => tb { D with nx := Pv (i + 1), ct := Pv (i + 1), bk := D.nx } σ2 H2) (hd : ∀ σ H, Pv xs.length σ H → D.nx σ H) :
    ∃ b, V.ref a = .ref b ∧ (∃ xs, SqT K H b xs) ∧ LoopW (Itt K b) g tb D σ H :=
  ⟨a, rfl, ⟨xs, hs⟩, for_it walk_tup Pv p0 (fun i σ H _ p => hl i σ H p) (fun i x σ H H' hi p y => by
    obtain ⟨rfl, hx⟩ := y
    exact ht i x σ _ hx p) hd⟩
theorem l_S {z : Str} (Pv : Nat → L2.St → Hp → Prop) (p0 : Pv 0 σ H)
    (ht : ∀ i c σ H, (cs z)[i]? = some c → Pv i σ H → g (.str ⟨#[c]⟩) σ H fun σ2 H2 => tb { D with nx := Pv (i + 1), ct := Pv (i + 1), bk := D.nx } σ2 H2) (hd : ∀ σ H, Pv z.length σ H → D.nx σ H) :
    ∃ y, V.str z = .str y ∧ LoopW (Its y) g tb D σ H := by
  refine ⟨z, rfl, for_it walk_str Pv p0 (fun _ _ _ _ _ => trivial) (fun i x σ H H' hi p y => ?_) hd⟩
  obtain ⟨rfl, c, hc, rfl⟩ := y
  exact ht i c σ _ (by rw [Array.getElem?_toList]; exact hc) p
theorem l_R {n : Int} (h1 : -1000000 ≤ n) (h2 : n ≤ 1000000) (Pv : Nat → L2.St → Hp → Prop) (p0 : Pv 0 σ H)
    (ht : ∀ (i : Nat) σ H, (i : Int) < n → Pv i σ H → g (.int (i : Nat)) σ H fun σ2 H2 => tb { D with nx := Pv (i + 1), ct := Pv (i + 1), bk := D.nx } σ2 H2) (hd : ∀ σ H, Pv n.toNat σ H → D.nx σ H) :
    ∃ j : Int, [V.int n] = [.int j] ∧ -(2 ^ 62) ≤ j ∧ j < 2 ^ 62 ∧ LoopW (Itr 0 j.toNat) g tb D σ H := by
  refine ⟨n, rfl, by omega, by omega, for_range Pv p0 (fun i σ H hi p => ?_) hd⟩
  have z := ht i σ H (by omega) p
  rw [Int.zero_add]
  exact z
theorem l_E {a : Addr} {xs : List V} (hs : SqT K H a xs) (Pv : Nat → L2.St → Hp → Prop) (p0 : Pv 0 σ H) (hl : ∀ i σ H, Pv i σ H → SqT K H a xs)
    (ht : ∀ i x σ H p, xs[i]? = some x → Pv i σ H → H p = none → g (.ref p) σ (upd H p (.tup [.int (i : Nat), x])) fun σ2 H2 => tb { D with nx := Pv (i + 1), ct := Pv (i + 1), bk := D.nx } σ2 H2)
    (hd : ∀ σ H, Pv xs.length σ H → D.nx σ H) : ∃ b ys, [V.ref a] = [.ref b] ∧ SqT K H b ys ∧ LoopW (ItE (fun H => SqT K H b ys) ys.length fun i _ x => ys[i]? = some x) g tb D σ H := by
  refine ⟨a, xs, rfl, hs, for_it walk_E Pv p0 (fun i σ H _ p => hl i σ H p) (fun i x σ H H' hi p y => ?_) hd⟩
  obtain ⟨T, x', rfl, hT, rfl, hx⟩ := y
  exact ht i x' σ H T hx p hT
end
theorem cutV_mem {xs : List V} {lo hi : Option Int} {x : V} (h : x ∈ cutV xs lo hi) : x ∈ xs := List.mem_of_mem_drop (List.mem_of_mem_take h)
theorem cutV_len {xs : List V} {lo hi : Option Int} : (cutV xs lo hi).length ≤ xs.length := by
  unfold cutV
  rw [List.length_take, List.length_drop]
  omega
theorem cutV_to (xs : List V) (n : Nat) : cutV xs none (some (n : Int)) = xs.take n := by
  unfold cutV
  rw [HT.sIx_nat, HT.sIx_none, List.drop_zero, Nat.sub_zero]
  by_cases h : n ≤ xs.length
  · rw [Nat.min_eq_left h]
  · rw [Nat.min_eq_right (by omega), List.take_of_length_le (Nat.le_refl _), List.take_of_length_le (by omega)]
theorem atI_lt {xs : List V} {i : Int} (h0 : 0 ≤ i) (h : i < (xs.length : Int)) : ∃ x, atI xs i = some x ∧ x ∈ xs := by
  have hi : i.toNat < xs.length := by omega
  exact ⟨xs[i.toNat], at_g (by omega) (List.getElem?_eq_getElem hi), List.getElem_mem _⟩
end Dk

/-! the told order: signs, the relation by its hops, its closure by rounds over a table of bits -/
namespace Tl
abbrev Sg := Nat × Nat
section
variable (L R : Nat → Sg)
/-- told ahead, by hops -/
inductive A : Sg → Sg → Prop where
  | same {x y : Sg} (h : x.1 = y.1) (i : x.2 < y.2) : A x y
  | rEq {x y : Sg} (h : y.1 < x.1) (e : R x.1 = y) : A x y
  | rGo {x y : Sg} (h : y.1 < x.1) (a : A (R x.1) y) : A x y
  | lEq {x y : Sg} (h : x.1 < y.1) (e : x = L y.1) : A x y
  | lGo {x y : Sg} (h : x.1 < y.1) (a : A x (L y.1)) : A x y
def E (x y : Sg) : Prop := x = y ∨ A L R x y
end
section
variable {L R : Nat → Sg} {x y z : Sg}
theorem A.same_iff (h : x.1 = y.1) : A L R x y ↔ x.2 < y.2 :=
  ⟨fun a => by cases a with
    | same _ i => exact i
    | rEq g _ => omega
    | rGo g _ => omega
    | lEq g _ => omega
    | lGo g _ => omega, fun i => .same h i⟩
theorem A.r_iff (h : y.1 < x.1) : A L R x y ↔ E L R (R x.1) y :=
  ⟨fun a => by cases a with
    | same g _ => omega
    | rEq _ e => exact .inl e
    | rGo _ a => exact .inr a
    | lEq g _ => omega
    | lGo g _ => omega, fun e => e.elim (.rEq h) (.rGo h)⟩
theorem A.l_iff (h : x.1 < y.1) : A L R x y ↔ E L R x (L y.1) :=
  ⟨fun a => by cases a with
    | same g _ => omega
    | rEq g _ => omega
    | rGo g _ => omega
    | lEq _ e => exact .inl e
    | lGo _ a => exact .inr a, fun e => e.elim (.lEq h) (.lGo h)⟩
theorem A.irr : ¬ A L R x x := fun a => by
  have z := (A.same_iff (L := L) (R := R) (rfl : x.1 = x.1)).mp a
  omega
/-- births below n: left and right of lesser chunks, the left told ahead of the right -/
structure Bs (L R : Nat → Sg) (n : Nat) : Prop where
  l : ∀ c, 0 < c → c < n → (L c).1 < c
  r : ∀ c, 0 < c → c < n → (R c).1 < c
  lr : ∀ c, 0 < c → c < n → A L R (L c) (R c)
theorem Bs.mono {n m : Nat} (b : Bs L R n) (h : m ≤ n) : Bs L R m := ⟨fun c h0 h1 => b.l c h0 (by omega), fun c h0 h1 => b.r c h0 (by omega), fun c h0 h1 => b.lr c h0 (by omega)⟩
theorem Bs.trans {n : Nat} (b : Bs L R n) : ∀ m, m ≤ n → ∀ x y z : Sg, x.1 < m → y.1 < m → z.1 < m → A L R x y → A L R y z → A L R x z := by
  intro m
  induction m with
  | zero => intro _ x y z h; omega
  | succ m ih =>
    intro hm x y z hx hy hz a1 a2
    have ih' := ih (by omega)
    have eT : ∀ {u v t : Sg}, u.1 < m → v.1 < m → t.1 < m → E L R u v → A L R v t → A L R u t := fun h1 h2 h3 e a => by
      rcases e with rfl | e
      · exact a
      · exact ih' _ _ _ h1 h2 h3 e a
    have tE : ∀ {u v t : Sg}, u.1 < m → v.1 < m → t.1 < m → A L R u v → E L R v t → A L R u t := fun h1 h2 h3 a e => by
      rcases e with rfl | e
      · exact a
      · exact ih' _ _ _ h1 h2 h3 a e
    by_cases cx : x.1 = m
    · by_cases cy : y.1 = m
      · by_cases cz : z.1 = m
        · have i1 := (A.same_iff (by omega)).mp a1
          have i2 := (A.same_iff (by omega)).mp a2
          exact .same (by omega) (by omega)
        · have e2 := (A.r_iff (by omega)).mp a2
          exact (A.r_iff (by omega)).mpr (by rw [show x.1 = y.1 by omega]; exact e2)
      · by_cases cz : z.1 = m
        · exfalso
          have m0 : 0 < m := by omega
          have hl := b.l m m0 (by omega)
          have hr := b.r m m0 (by omega)
          have hlr := b.lr m m0 (by omega)
          have e1 := (A.r_iff (by omega)).mp a1
          have e2 := (A.l_iff (by omega)).mp a2
          rw [cx] at e1
          rw [cz] at e2
          have a3 : A L R (L m) y := tE hl hr (by omega) hlr e1
          have a4 : A L R (L m) (L m) := tE hl (by omega) hl a3 e2
          exact A.irr a4
        · have e1 := (A.r_iff (by omega)).mp a1
          have hr := b.r x.1 (by omega) (by omega)
          exact (A.r_iff (by omega)).mpr (.inr (eT (by omega) (by omega) (by omega) e1 a2))
    · by_cases cy : y.1 = m
      · by_cases cz : z.1 = m
        · have e1 := (A.l_iff (by omega)).mp a1
          exact (A.l_iff (by omega)).mpr (by rw [show z.1 = y.1 by omega]; exact e1)
        · have e1 := (A.l_iff (by omega)).mp a1
          have e2 := (A.r_iff (by omega)).mp a2
          have hl := b.l y.1 (by omega) (by omega)
          have hr := b.r y.1 (by omega) (by omega)
          have hlr := b.lr y.1 (by omega) (by omega)
          have a3 := eT (by omega) (by omega) (by omega) e1 hlr
          exact tE (by omega) (by omega) (by omega) a3 e2
      · by_cases cz : z.1 = m
        · have e2 := (A.l_iff (by omega)).mp a2
          have hl := b.l z.1 (by omega) (by omega)
          exact (A.l_iff (by omega)).mpr (.inr (tE (by omega) (by omega) (by omega) a1 e2))
        · exact ih' x y z (by omega) (by omega) (by omega) a1 a2
theorem Bs.tr {n : Nat} (b : Bs L R n) (hx : x.1 < n) (hy : y.1 < n) (hz : z.1 < n) (a1 : A L R x y) (a2 : A L R y z) : A L R x z := b.trans n (Nat.le_refl n) x y z hx hy hz a1 a2
/-- only births up to the greater chunk count -/
theorem A.congr {L' R' : Nat → Sg} {n : Nat} (hl : ∀ c, 0 < c → c < n → L c = L' c) (hr : ∀ c, 0 < c → c < n → R c = R' c) (b : ∀ c, 0 < c → c < n → (L c).1 < c ∧ (R c).1 < c) :
    ∀ {x y : Sg}, A L R x y → x.1 < n → y.1 < n → A L' R' x y := fun {x y} a => by
  induction a with
  | same h i => exact fun _ _ => .same h i
  | @rEq x y h e => exact fun hx hy => .rEq h ((hr x.1 (by omega) hx).symm.trans e)
  | @rGo x y h a ih =>
    intro hx hy
    have e := hr x.1 (by omega) hx
    have w := (b x.1 (by omega) hx).2
    exact .rGo h (e ▸ ih (by omega) hy)
  | @lEq x y h e => exact fun hx hy => .lEq h (e.trans (hl y.1 (by omega) hy))
  | @lGo x y h a ih =>
    intro hx hy
    have e := hl y.1 (by omega) hy
    have w := (b y.1 (by omega) hy).1
    exact .lGo h (e ▸ ih hx (by omega))
end
/-! ### paths -/
inductive Pth (S : List (Nat × Nat)) : Nat → Nat → Nat → Prop where
  | one {a b : Nat} (h : (a, b) ∈ S) : Pth S 1 a b
  | step {k a b c : Nat} (h : (a, b) ∈ S) (p : Pth S k b c) : Pth S (k + 1) a c
def Rch (S : List (Nat × Nat)) (a b : Nat) : Prop := ∃ k, Pth S k a b
section
variable {S : List (Nat × Nat)} {a b c : Nat}
theorem Pth.app {k m : Nat} (p : Pth S k a b) (q : Pth S m b c) : Rch S a c := by
  induction p with
  | one h => exact ⟨_, .step h q⟩
  | step h p ih =>
    obtain ⟨k', r⟩ := ih q
    exact ⟨_, .step h r⟩
theorem Rch.tr (p : Rch S a b) (q : Rch S b c) : Rch S a c := by
  obtain ⟨k, p⟩ := p
  obtain ⟨m, q⟩ := q
  exact p.app q
/-- a list without repeats within another one is no longer -/
theorem nodup_le : ∀ {l m : List Nat}, l.Nodup → (∀ x ∈ l, x ∈ m) → l.length ≤ m.length
  | [], m, _, _ => Nat.zero_le _
  | x :: r, m, hn, hm => by
    have hx : x ∈ m := hm x (List.mem_cons_self ..)
    have hn' := List.nodup_cons.mp hn
    have h1 : ∀ y ∈ r, y ∈ m.erase x := fun y hy => (List.mem_erase_of_ne (by
      rintro rfl
      exact hn'.1 hy)).mpr (hm y (List.mem_cons_of_mem _ hy))
    have h2 := nodup_le hn'.2 h1
    rw [List.length_erase_of_mem hx] at h2
    have h3 : 0 < m.length := List.length_pos_of_mem hx
    rw [List.length_cons]
    omega
theorem Pth.bound {k n : Nat} {lt : Nat → Nat → Prop} (hS : ∀ a b, (a, b) ∈ S → lt a b ∧ a < n ∧ b < n) (tr : ∀ a b c, a < n → b < n → c < n → lt a b → lt b c → lt a c) (ir : ∀ a, ¬ lt a a) (p : Pth S k a b) : k + 1 ≤ n := by
  have key : ∀ {k a b}, Pth S k a b → ∃ l : List Nat, l.length = k ∧ (a :: l).Nodup ∧ (∀ x ∈ l, lt a x) ∧ ∀ x ∈ a :: l, x < n := by
    intro k a b p
    induction p with
    | @one a b h =>
      obtain ⟨h1, h2, h3⟩ := hS _ _ h
      refine ⟨[b], rfl, ?_, by simpa using h1, by simp [h2, h3]⟩
      simp
      exact fun e => ir a (e ▸ h1)
    | @step k a b c h p ih =>
      obtain ⟨l, hl, hn, hlt, hb⟩ := ih
      obtain ⟨h1, h2, h3⟩ := hS _ _ h
      have all : ∀ x ∈ b :: l, lt a x := fun x hx => by
        rcases List.mem_cons.mp hx with rfl | hx
        · exact h1
        · exact tr a b x h2 h3 (hb x (List.mem_cons_of_mem _ hx)) h1 (hlt x hx)
      refine ⟨b :: l, by rw [List.length_cons, hl], List.nodup_cons.mpr ⟨fun hm => ir a (all a hm), hn⟩, all, fun x hx => ?_⟩
      rcases List.mem_cons.mp hx with rfl | hx
      · exact h2
      · exact hb x hx
  obtain ⟨l, hl, hn, _, hb⟩ := key p
  have z := nodup_le (m := List.range n) hn fun x hx => List.mem_range.mpr (hb x hx)
  rw [List.length_cons, hl, List.length_range] at z
  exact z
end
/-! ### the table -/
def put (T : List Nat) (e : Nat × Nat) : List Nat := T.set e.1 (T.getD e.1 0 ||| 1 <<< e.2 ||| T.getD e.2 0)
def lap (S : List (Nat × Nat)) (T : List Nat) : List Nat := S.foldl put T
/-- T has b behind a -/
def Bit (T : List Nat) (a b : Nat) : Prop := (T.getD a 0).testBit b = true
section
variable {S : List (Nat × Nat)} {T : List Nat} {n : Nat}
theorem put_len (e : Nat × Nat) : (put T e).length = T.length := List.length_set ..
theorem lap_len : ∀ (S : List (Nat × Nat)) (T : List Nat), (lap S T).length = T.length
  | [], _ => rfl
  | e :: r, T => (lap_len r (put T e)).trans (put_len e)
theorem bit_put {e : Nat × Nat} (h : e.1 < T.length) {a b : Nat} : Bit (put T e) a b ↔ Bit T a b ∨ (a = e.1 ∧ (b = e.2 ∨ Bit T e.2 b)) := by
  unfold Bit put
  by_cases ha : a = e.1
  · subst ha
    have g : (T.set e.1 (T.getD e.1 0 ||| 1 <<< e.2 ||| T.getD e.2 0)).getD e.1 0 = T.getD e.1 0 ||| 1 <<< e.2 ||| T.getD e.2 0 := by
      simp [List.getD, List.getElem?_set, h]
    rw [g, Nat.testBit_or, Nat.testBit_or, Nat.one_shiftLeft, Nat.testBit_two_pow, Bool.or_eq_true, Bool.or_eq_true, decide_eq_true_iff]
    constructor
    · rintro ((h | h) | h)
      · exact .inl h
      · exact .inr ⟨rfl, .inl h.symm⟩
      · exact .inr ⟨rfl, .inr h⟩
    · rintro (h | ⟨_, h | h⟩)
      · exact .inl (.inl h)
      · exact .inl (.inr h.symm)
      · exact .inr h
  · have g : (T.set e.1 (T.getD e.1 0 ||| 1 <<< e.2 ||| T.getD e.2 0)).getD a 0 = T.getD a 0 := by
      simp [List.getD, List.getElem?_set, Ne.symm ha]
    rw [g]
    constructor
    · exact fun h => .inl h
    · rintro (h | ⟨h, _⟩)
      · exact h
      · exact absurd h ha
theorem lap_mono : ∀ (S : List (Nat × Nat)) {T : List Nat}, (∀ e ∈ S, e.1 < T.length) → ∀ {a b}, Bit T a b → Bit (lap S T) a b
  | [], _, _, _, _, h => h
  | e :: r, T, hS, a, b, h => lap_mono r (fun e' he => by rw [put_len]; exact hS e' (List.mem_cons_of_mem _ he)) ((bit_put (hS e (List.mem_cons_self ..))).mpr (.inl h))
theorem lap_edge : ∀ (S : List (Nat × Nat)) {T : List Nat}, (∀ e ∈ S, e.1 < T.length) → ∀ {a b c}, (a, b) ∈ S → c = b ∨ Bit T b c → Bit (lap S T) a c
  | e :: r, T, hS, a, b, c, hm, h => by
    have hr : ∀ e' ∈ r, e'.1 < (put T e).length := fun e' he => by rw [put_len]; exact hS e' (List.mem_cons_of_mem _ he)
    rcases List.mem_cons.mp hm with rfl | hm
    · exact lap_mono r hr ((bit_put (hS _ (List.mem_cons_self ..))).mpr (.inr ⟨rfl, h⟩))
    · refine lap_edge r hr hm (h.imp id fun h => (bit_put (hS e (List.mem_cons_self ..))).mpr (.inl h))
theorem lap_sound : ∀ (S : List (Nat × Nat)) {S0 : List (Nat × Nat)} {T : List Nat}, (∀ e ∈ S, e ∈ S0) → (∀ e ∈ S, e.1 < T.length) → (∀ a b, Bit T a b → Rch S0 a b) → ∀ a b, Bit (lap S T) a b → Rch S0 a b
  | [], _, _, _, _, h => h
  | e :: r, S0, T, h0, hS, h => lap_sound r (fun e' he => h0 e' (List.mem_cons_of_mem _ he)) (fun e' he => by rw [put_len]; exact hS e' (List.mem_cons_of_mem _ he)) fun a b hb => by
    refine Or.elim ((bit_put (hS e (List.mem_cons_self ..))).mp hb) (fun hb => h a b hb) fun hb => ?_
    · obtain ⟨ea, hb2⟩ := hb
      subst ea
      have he : Rch S0 e.1 e.2 := ⟨1, .one (h0 e (List.mem_cons_self ..))⟩
      refine Or.elim hb2 (fun e1 => ?_) (fun hb => he.tr (h _ _ hb))
      rw [e1]
      exact he
/-- behind r laps all paths of at most r steps are there -/
def Upto (S : List (Nat × Nat)) (T : List Nat) (r : Nat) : Prop := ∀ k a b, Pth S k a b → k ≤ r → Bit T a b
theorem Upto.lap {r : Nat} (hS : ∀ e ∈ S, e.1 < T.length) (u : Upto S T r) : Upto S (lap S T) (r + 1) := fun k a b p hk => by
  cases p with
  | one h => exact lap_edge S hS h (.inl rfl)
  | step h p => exact lap_edge S hS h (.inr (u _ _ _ p (by omega)))
/-- where a lap changes nothing all paths are there -/
theorem still_all (hS : ∀ e ∈ S, e.1 < T.length) (h : ∀ a b c, (a, b) ∈ S → c = b ∨ Bit T b c → Bit T a c) {a b : Nat} (p : Rch S a b) : Bit T a b := by
  obtain ⟨k, p⟩ := p
  induction p with
  | one h' => exact h _ _ _ h' (.inl rfl)
  | step h' p ih => exact h _ _ _ h' (.inr ih)
end
end Tl

namespace Tl
/-! ### signs in a row, steps -/
section
variable (sz : Nat → Nat)
def off : Nat → Nat
  | 0 => 0
  | c + 1 => off c + sz c
def rowOf (c : Nat) : List Sg := (List.range (sz c)).map fun i => (c, i)
def marks : Nat → List Sg
  | 0 => []
  | c + 1 => marks c ++ rowOf sz c
def ps (x : Sg) : Nat := off sz x.1 + x.2
/-- a sign of the births below n -/
def Ok (n : Nat) (x : Sg) : Prop := x.1 < n ∧ x.2 < sz x.1
end
section
variable {sz : Nat → Nat} {n : Nat} {x y : Sg}
theorem rowOf_len (c : Nat) : (rowOf sz c).length = sz c := by simp [rowOf]
theorem marks_len : ∀ n, (marks sz n).length = off sz n
  | 0 => rfl
  | n + 1 => by
    show (marks sz n ++ rowOf sz n).length = off sz n + sz n
    rw [List.length_append, marks_len n, rowOf_len]
theorem marks_at : ∀ {n : Nat} {x : Sg}, Ok sz n x → (marks sz n)[ps sz x]? = some x
  | 0, x, h => absurd h.1 (Nat.not_lt_zero _)
  | n + 1, x, h => by
    show (marks sz n ++ rowOf sz n)[ps sz x]? = some x
    by_cases hx : x.1 < n
    · have ih := marks_at (n := n) ⟨hx, h.2⟩
      obtain ⟨hl, _⟩ := List.getElem?_eq_some_iff.mp ih
      rw [List.getElem?_append_left hl]
      exact ih
    · have e : x.1 = n := by have := h.1; omega
      have e2 : ps sz x = (marks sz n).length + x.2 := by unfold ps; rw [marks_len, e]
      rw [e2, List.getElem?_append_right (by omega), Nat.add_sub_cancel_left]
      unfold rowOf
      rw [List.getElem?_map, List.getElem?_range (by rw [← e]; exact h.2)]
      show some (n, x.2) = some x
      rw [← e]
theorem mem_marks : ∀ {n : Nat} {x : Sg}, x ∈ marks sz n ↔ Ok sz n x
  | 0, x => by simp [marks, Ok]
  | n + 1, x => by
    show x ∈ marks sz n ++ rowOf sz n ↔ _
    rw [List.mem_append, mem_marks]
    unfold rowOf Ok
    simp only [List.mem_map, List.mem_range]
    constructor
    · rintro (⟨h1, h2⟩ | ⟨i, hi, rfl⟩)
      · exact ⟨by omega, h2⟩
      · exact ⟨by show n < n + 1; omega, hi⟩
    · rintro ⟨h1, h2⟩
      by_cases hx : x.1 < n
      · exact .inl ⟨hx, h2⟩
      · have e : x.1 = n := by omega
        refine .inr ⟨x.2, by rw [← e]; exact h2, ?_⟩
        rw [← e]
theorem ps_lt (h : Ok sz n x) : ps sz x < off sz n := by
  have := (List.getElem?_eq_some_iff.mp (marks_at h)).1
  rw [marks_len] at this
  exact this
theorem ps_inj (hx : Ok sz n x) (hy : Ok sz n y) (e : ps sz x = ps sz y) : x = y := by
  have h1 := marks_at hx
  rw [e, marks_at hy] at h1
  exact (Option.some.inj h1).symm
theorem sign_at {j : Nat} (h : j < off sz n) : ∃ x, Ok sz n x ∧ ps sz x = j := by
  have hj : j < (marks sz n).length := by rw [marks_len]; exact h
  have hm : (marks sz n)[j] ∈ marks sz n := List.getElem_mem hj
  have ok := mem_marks.mp hm
  refine ⟨_, ok, ?_⟩
  have key : ∀ {n j : Nat} {x : Sg}, (marks sz n)[j]? = some x → ps sz x = j := by
    intro n
    induction n with
    | zero => intro j x h; simp [marks] at h
    | succ n ih =>
      intro j x h
      have h' : (marks sz n ++ rowOf sz n)[j]? = some x := h
      by_cases hl : j < (marks sz n).length
      · rw [List.getElem?_append_left hl] at h'
        exact ih h'
      · rw [List.getElem?_append_right (by omega)] at h'
        unfold rowOf at h'
        rw [List.getElem?_map] at h'
        obtain ⟨i, hi, rfl⟩ := Option.map_eq_some_iff.mp h'
        have e := (List.getElem?_eq_some_iff.mp hi).2
        simp at e
        unfold ps
        show off sz n + i = j
        rw [marks_len] at e hl
        omega
  exact key (List.getElem?_eq_getElem hj)
end
section
variable (L R : Nat → Sg) (sz : Nat → Nat)
def stepsOf (c : Nat) : List (Nat × Nat) := (ps sz (L c), off sz c) :: ((List.range (sz c - 1)).map fun i => (off sz c + i, off sz c + i + 1)) ++ [(off sz c + sz c - 1, ps sz (R c))]
/-- the steps of the births 1 to n -/
def steps : Nat → List (Nat × Nat)
  | 0 => [(0, 1)]
  | n + 1 => steps n ++ stepsOf L R sz (n + 1)
/-- births below n, as a sheet may make them -/
structure Wv (n : Nat) : Prop extends Bs L R n where
  n0 : 0 < n
  s0 : sz 0 = 2
  s1 : ∀ c, 0 < c → c < n → 0 < sz c
  lo : ∀ c, 0 < c → c < n → (L c).2 < sz (L c).1
  ro : ∀ c, 0 < c → c < n → (R c).2 < sz (R c).1
end
section
variable {L R : Nat → Sg} {sz : Nat → Nat} {n : Nat}
theorem Wv.okL (w : Wv L R sz n) {c : Nat} (h0 : 0 < c) (h : c < n) : Ok sz n (L c) := ⟨Nat.lt_trans (w.l c h0 h) h, w.lo c h0 h⟩
theorem Wv.okR (w : Wv L R sz n) {c : Nat} (h0 : 0 < c) (h : c < n) : Ok sz n (R c) := ⟨Nat.lt_trans (w.r c h0 h) h, w.ro c h0 h⟩
theorem Wv.mono (w : Wv L R sz n) {m : Nat} (h0 : 0 < m) (h : m ≤ n) : Wv L R sz m :=
  { Bs.mono w.toBs h with n0 := h0, s0 := w.s0, s1 := fun c h1 h2 => w.s1 c h1 (by omega), lo := fun c h1 h2 => w.lo c h1 (by omega), ro := fun c h1 h2 => w.ro c h1 (by omega) }
theorem mem_steps {m : Nat} {e : Nat × Nat} : e ∈ steps L R sz m ↔ e = (0, 1) ∨ ∃ c, 0 < c ∧ c ≤ m ∧ e ∈ stepsOf L R sz c := by
  induction m with
  | zero =>
    show e ∈ [(0, 1)] ↔ _
    rw [List.mem_singleton]
    constructor
    · exact .inl
    · rintro (h | ⟨c, h1, h2, _⟩)
      · exact h
      · omega
  | succ m ih =>
    show e ∈ steps L R sz m ++ stepsOf L R sz (m + 1) ↔ _
    rw [List.mem_append, ih]
    constructor
    · rintro ((h | ⟨c, h1, h2, h3⟩) | h)
      · exact .inl h
      · exact .inr ⟨c, h1, by omega, h3⟩
      · exact .inr ⟨m + 1, by omega, by omega, h⟩
    · rintro (h | ⟨c, h1, h2, h3⟩)
      · exact .inl (.inl h)
      · by_cases hc : c ≤ m
        · exact .inl (.inr ⟨c, h1, hc, h3⟩)
        · have e : c = m + 1 := by omega
          rw [e] at h3
          exact .inr h3
theorem mem_stepsOf {c : Nat} {e : Nat × Nat} : e ∈ stepsOf L R sz c ↔ e = (ps sz (L c), off sz c) ∨ (∃ i, i < sz c - 1 ∧ e = (off sz c + i, off sz c + i + 1)) ∨ e = (off sz c + sz c - 1, ps sz (R c)) := by
  unfold stepsOf
  simp only [List.cons_append, List.mem_cons, List.mem_append, List.mem_map, List.mem_range, List.not_mem_nil, or_false]
  constructor
  · rintro (h | ⟨i, hi, rfl⟩ | h)
    · exact .inl h
    · exact .inr (.inl ⟨i, hi, rfl⟩)
    · exact .inr (.inr h)
  · rintro (h | ⟨i, hi, rfl⟩ | h)
    · exact .inl h
    · exact .inr (.inl ⟨i, hi, rfl⟩)
    · exact .inr (.inr h)
/-- each step is one of the order -/
theorem step_A (w : Wv L R sz n) {a b : Nat} (h : (a, b) ∈ steps L R sz (n - 1)) : ∃ x y, Ok sz n x ∧ Ok sz n y ∧ ps sz x = a ∧ ps sz y = b ∧ A L R x y := by
  have n0 := w.n0
  rcases mem_steps.mp h with h | ⟨c, h1, h2, h3⟩
  · cases h
    refine ⟨(0, 0), (0, 1), ⟨n0, by rw [w.s0]; decide⟩, ⟨n0, by rw [w.s0]; decide⟩, rfl, rfl, .same rfl (by decide)⟩
  · have hc : c < n := by omega
    have hs := w.s1 c h1 hc
    rcases mem_stepsOf.mp h3 with e | ⟨i, hi, e⟩ | e
    · cases e
      exact ⟨L c, (c, 0), w.okL h1 hc, ⟨hc, hs⟩, rfl, rfl, .lEq (w.l c h1 hc) rfl⟩
    · cases e
      exact ⟨(c, i), (c, i + 1), ⟨hc, by show i < sz c; omega⟩, ⟨hc, by show i + 1 < sz c; omega⟩, rfl, by unfold ps; show off sz c + (i + 1) = _; omega, .same rfl (by show i < i + 1; omega)⟩
    · cases e
      exact ⟨(c, sz c - 1), R c, ⟨hc, by show sz c - 1 < sz c; omega⟩, w.okR h1 hc, by unfold ps; show off sz c + (sz c - 1) = _; omega, rfl, .rEq (w.r c h1 hc) rfl⟩
theorem rch_row (w : Wv L R sz n) {c : Nat} (hc : c < n) : ∀ {i j : Nat}, i < j → j < sz c → Rch (steps L R sz (n - 1)) (off sz c + i) (off sz c + j) := by
  intro i j hij
  obtain ⟨d, rfl⟩ : ∃ d, j = i + 1 + d := ⟨j - (i + 1), by omega⟩
  clear hij
  have one : ∀ i, i + 1 < sz c → Rch (steps L R sz (n - 1)) (off sz c + i) (off sz c + i + 1) := by
    intro i hi
    refine ⟨1, .one (mem_steps.mpr ?_)⟩
    by_cases h0 : c = 0
    · subst h0
      have z := w.s0
      have e : i = 0 := by omega
      subst e
      exact .inl rfl
    · exact .inr ⟨c, by omega, by omega, mem_stepsOf.mpr (.inr (.inl ⟨i, by omega, rfl⟩))⟩
  induction d with
  | zero => intro h; exact one i h
  | succ d ih =>
    intro h
    have p := ih (by omega)
    have q := one (i + 1 + d) (by omega)
    exact p.tr q
theorem rch_A (w : Wv L R sz n) {x y : Sg} (a : A L R x y) : Ok sz n x → Ok sz n y → Rch (steps L R sz (n - 1)) (ps sz x) (ps sz y) := by
  have toR : ∀ {x : Sg}, Ok sz n x → 0 < x.1 → Rch (steps L R sz (n - 1)) (ps sz x) (ps sz (R x.1)) := by
    intro x hx h0
    have e : Rch (steps L R sz (n - 1)) (off sz x.1 + sz x.1 - 1) (ps sz (R x.1)) := ⟨1, .one (mem_steps.mpr (.inr ⟨x.1, h0, by have := hx.1; omega, mem_stepsOf.mpr (.inr (.inr rfl))⟩))⟩
    by_cases hl : x.2 = sz x.1 - 1
    · have e2 : ps sz x = off sz x.1 + sz x.1 - 1 := by unfold ps; have := hx.2; omega
      rw [e2]
      exact e
    · have p := rch_row w hx.1 (i := x.2) (j := sz x.1 - 1) (by have := hx.2; omega) (by have := hx.2; omega)
      have e2 : off sz x.1 + (sz x.1 - 1) = off sz x.1 + sz x.1 - 1 := by have := hx.2; omega
      rw [e2] at p
      exact p.tr e
  have toL : ∀ {y : Sg}, Ok sz n y → 0 < y.1 → Rch (steps L R sz (n - 1)) (ps sz (L y.1)) (ps sz y) := by
    intro y hy h0
    have e : Rch (steps L R sz (n - 1)) (ps sz (L y.1)) (off sz y.1) := ⟨1, .one (mem_steps.mpr (.inr ⟨y.1, h0, by have := hy.1; omega, mem_stepsOf.mpr (.inl rfl)⟩))⟩
    by_cases hl : y.2 = 0
    · have e2 : ps sz y = off sz y.1 := by unfold ps; omega
      rw [e2]
      exact e
    · exact e.tr (rch_row w hy.1 (i := 0) (j := y.2) (by omega) hy.2)
  induction a with
  | @same x y h i =>
    intro hx hy
    unfold ps
    rw [← h]
    exact rch_row w hx.1 i (by rw [h]; exact hy.2)
  | @rEq x y h e => intro hx hy; exact e ▸ toR hx (by omega)
  | @rGo x y h a ih => intro hx hy; exact (toR hx (by omega)).tr (ih (w.okR (by omega) hx.1) hy)
  | @lEq x y h e => intro hx hy; exact e ▸ toL hy (by omega)
  | @lGo x y h a ih => intro hx hy; exact (ih hx (w.okL (by omega) hy.1)).tr (toL hy (by omega))
theorem A_rch (w : Wv L R sz n) {x y : Sg} (hx : Ok sz n x) (hy : Ok sz n y) (p : Rch (steps L R sz (n - 1)) (ps sz x) (ps sz y)) : A L R x y := by
  obtain ⟨k, p⟩ := p
  have key : ∀ {k a b}, Pth (steps L R sz (n - 1)) k a b → ∃ u v, Ok sz n u ∧ Ok sz n v ∧ ps sz u = a ∧ ps sz v = b ∧ A L R u v := by
    intro k a b p
    induction p with
    | one h => exact step_A w h
    | step h p ih =>
      obtain ⟨u, v, h1, h2, h3, h4, h5⟩ := step_A w h
      obtain ⟨u', v', g1, g2, g3, g4, g5⟩ := ih
      have e := ps_inj h2 g1 (h4.trans g3.symm)
      subst e
      exact ⟨u, v', h1, g2, h3, g4, w.tr h1.1 h2.1 g2.1 h5 g5⟩
  obtain ⟨u, v, h1, h2, h3, h4, h5⟩ := key p
  have e1 := ps_inj hx h1 h3.symm
  have e2 := ps_inj hy h2 h4.symm
  subst e1 e2
  exact h5
theorem rch_iff (w : Wv L R sz n) {x y : Sg} (hx : Ok sz n x) (hy : Ok sz n y) : Rch (steps L R sz (n - 1)) (ps sz x) (ps sz y) ↔ A L R x y := ⟨A_rch w hx hy, fun a => rch_A w a hx hy⟩
theorem step_lt (w : Wv L R sz n) {a b : Nat} (h : (a, b) ∈ steps L R sz (n - 1)) : a < off sz n ∧ b < off sz n := by
  obtain ⟨x, y, hx, hy, rfl, rfl, _⟩ := step_A w h
  exact ⟨ps_lt hx, ps_lt hy⟩
theorem path_bound (w : Wv L R sz n) {k a b : Nat} (p : Pth (steps L R sz (n - 1)) k a b) : k + 1 ≤ off sz n := by
  refine Pth.bound (lt := fun a b => ∃ x y, Ok sz n x ∧ Ok sz n y ∧ ps sz x = a ∧ ps sz y = b ∧ A L R x y) (fun a b h => ⟨step_A w h, step_lt w h⟩) (fun a b c ha hb hc h1 h2 => ?_) (fun a h => ?_) p
  · obtain ⟨x, y, hx, hy, rfl, rfl, a1⟩ := h1
    obtain ⟨y', z, hy', hz, e, rfl, a2⟩ := h2
    have e' := ps_inj hy' hy e
    subst e'
    exact ⟨x, z, hx, hz, rfl, rfl, w.tr hx.1 hy.1 hz.1 a1 a2⟩
  · obtain ⟨x, y, hx, hy, rfl, e, a1⟩ := h
    have e' := ps_inj hy hx e
    subst e'
    exact A.irr a1
theorem steps_len (w : Wv L R sz n) : off sz n ≤ (steps L R sz (n - 1)).length + 1 := by
  have key : ∀ m, m < n → off sz (m + 1) ≤ (steps L R sz m).length + 1 := by
    intro m
    induction m with
    | zero =>
      intro _
      show 0 + sz 0 ≤ 1 + 1
      rw [w.s0]
      decide
    | succ m ih =>
      intro h
      have z := ih (by omega)
      show off sz (m + 1) + sz (m + 1) ≤ (steps L R sz m ++ stepsOf L R sz (m + 1)).length + 1
      rw [List.length_append]
      have e : (stepsOf L R sz (m + 1)).length = sz (m + 1) - 1 + 2 := by
        unfold stepsOf
        simp
      rw [e]
      omega
  have n0 := w.n0
  have z := key (n - 1) (by omega)
  rw [Nat.sub_add_cancel n0] at z
  exact z
/-- the table tells the order -/
def Tells (L R : Nat → Sg) (sz : Nat → Nat) (n : Nat) (T : List Nat) : Prop := T.length = off sz n ∧ ∀ x y, Ok sz n x → Ok sz n y → (Bit T (ps sz x) (ps sz y) ↔ A L R x y)
/-- the table under way: sound, all paths of at most r steps -/
structure Under (L R : Nat → Sg) (sz : Nat → Nat) (n : Nat) (T : List Nat) (r : Nat) : Prop where
  len : T.length = off sz n
  snd : ∀ a b, Bit T a b → Rch (steps L R sz (n - 1)) a b
  upto : Upto (steps L R sz (n - 1)) T r
theorem Under.zero : Under L R sz n (List.replicate (off sz n) 0) 0 := by
  refine ⟨List.length_replicate, fun a b h => ?_, fun k a b p hk => ?_⟩
  · exfalso
    unfold Bit at h
    have e : (List.replicate (off sz n) 0).getD a 0 = 0 := by
      simp [List.getD, List.getElem?_replicate]
      split <;> rfl
    rw [e] at h
    simp at h
  · cases p <;> omega
theorem Under.fst (w : Wv L R sz n) {T : List Nat} {r : Nat} (u : Under L R sz n T r) : ∀ e ∈ steps L R sz (n - 1), e.1 < T.length := fun e he => by
  rw [u.len]
  exact (step_lt w (a := e.1) (b := e.2) he).1
theorem Under.lap (w : Wv L R sz n) {T : List Nat} {r : Nat} (u : Under L R sz n T r) : Under L R sz n (lap (steps L R sz (n - 1)) T) (r + 1) :=
  ⟨(lap_len _ _).trans u.len, lap_sound _ (fun _ h => h) (u.fst w) u.snd, u.upto.lap (u.fst w)⟩
theorem Under.done (w : Wv L R sz n) {T : List Nat} {r : Nat} (u : Under L R sz n T r) (h : off sz n ≤ r + 1) : Tells L R sz n T :=
  ⟨u.len, fun x y hx hy => ⟨fun b => A_rch w hx hy (u.snd _ _ b), fun a => by
    obtain ⟨k, p⟩ := rch_A w a hx hy
    have z := path_bound w p
    exact u.upto k _ _ p (by omega)⟩⟩
theorem Under.still (w : Wv L R sz n) {T : List Nat} {r : Nat} (u : Under L R sz n T r) (h : ∀ a b c, (a, b) ∈ steps L R sz (n - 1) → c = b ∨ Bit T b c → Bit T a c) : Tells L R sz n T :=
  ⟨u.len, fun x y hx hy => ⟨fun b => A_rch w hx hy (u.snd _ _ b), fun a => still_all (u.fst w) h (rch_A w a hx hy)⟩⟩
end
end Tl

namespace Dk
open PySem PySem.Spec PyProof.Rows L2
/-! ### what never runs -/
def tNv : TE := fun _ _ _ => False
theorem pe_never {X : Cx} {e : Expr} : PE X e tNv := ⟨fun _ _ _ _ _ _ h => h.elim⟩
/-! ### keywords alone -/
section
variable {X : Cx} {CX : CXT} {k : Nat} {f : Addr} {fd : FuncData} {ps ks : List Str} {sp : Sp} {E : XK} {x : Str} {p pos : Pos} {kws : List Keyword} {tk : TA} {g : List Value → List Value → List Value} {gV : List V → List V → List V}
def tCallK0 (sp : Sp) (gV : List V → List V → List V) (E : XK) (tk : TA) : TE := fun σ H Q => tk σ H fun zs H2 => sp (gV [] zs) H2 Q E
theorem pe_callK0 (F : FnOk X.prog X.w X.K X.mg X.base CX k f fd ps sp) (hr : Room k X.A) (hg : Gl X x) (hm : X.mg x = some (.ref f)) (hk : PySem.W.keepIn X.K (.ref f) = true) (hb : KBinds X.K fd ps ks g gV) (hx : Passes CX X E)
    (hkw : PK X kws tk) (hall : (backToKw pos (keywordEach kws X.env)).all (·.1.isSome) = true := by rfl) (hks : (backToKw pos (keywordEach kws X.env)).filterMap (·.1) = ks := by rfl)
    (hdb : (x == ("__debug__" : Str)) = false := by decide)
    (hpl : ((backTo pos (starEach [] X.env)).any (·.1) || (backToKw pos (keywordEach kws X.env)).any (·.1.isNone)) = false := by rfl) :
    PE X (.Call (.Name x p) [] kws pos) (tCallK0 sp gV E tk) := by
  refine ⟨fun pins s σ H Q I h => ?_⟩
  refine wpAny_Call_Name_kw (ld_glob I hg hm ?_ hdb)
  refine PySem.W.callWith_KW0 (h₀ := X.base) I.ok.mod.kin hk hall (thn (hkw.run pos pins s σ H _ I h) fun ws s2 ⟨zs, H2, I2, rz, q2⟩ => ⟨I2.kIn, ?_⟩) hpl
  rw [hks]
  exact run_fnk (us := []) (vs := []) F hr hb hx I2 .nil rz q2
theorem r_callK0 {σ : L2.St} {H : Hp} {Q : VK} (h : tk σ H fun zs H2 => sp (gV [] zs) H2 Q E) : tCallK0 sp gV E tk σ H Q := h
end
/-- three values put in another order -/
def p201 {α : Type} : List α → List α → List α
  | [], [a, b, c] => [b, c, a]
  | _, _ => []
def p210 {α : Type} : List α → List α → List α
  | [], [a, b, c] => [c, b, a]
  | _, _ => []
def p120 {α : Type} : List α → List α → List α
  | [], [a, b, c] => [c, a, b]
  | _, _ => []
theorem p201_rel {vs zs : List V} {us ws : List Value} (r : Vals vs us) (q : Vals zs ws) : Vals (p201 vs zs) (p201 us ws) := by
  cases r with
  | cons => exact .nil
  | nil => rcases q with _ | ⟨a, _ | ⟨b, _ | ⟨c, _ | _⟩⟩⟩
           · exact .nil
           · exact .nil
           · exact .nil
           · exact .cons b (.cons c (.cons a .nil))
           · exact .nil
theorem p210_rel {vs zs : List V} {us ws : List Value} (r : Vals vs us) (q : Vals zs ws) : Vals (p210 vs zs) (p210 us ws) := by
  cases r with
  | cons => exact .nil
  | nil => rcases q with _ | ⟨a, _ | ⟨b, _ | ⟨c, _ | _⟩⟩⟩
           · exact .nil
           · exact .nil
           · exact .nil
           · exact .cons c (.cons b (.cons a .nil))
           · exact .nil
theorem p120_rel {vs zs : List V} {us ws : List Value} (r : Vals vs us) (q : Vals zs ws) : Vals (p120 vs zs) (p120 us ws) := by
  cases r with
  | cons => exact .nil
  | nil => rcases q with _ | ⟨a, _ | ⟨b, _ | ⟨c, _ | _⟩⟩⟩
           · exact .nil
           · exact .nil
           · exact .nil
           · exact .cons c (.cons a (.cons b .nil))
           · exact .nil
def rAbs : List V → Hp → VK → Prop := fun xs H Q => ∃ i, xs = [.int i] ∧ Q (.int (if i < 0 then -i else i)) H
theorem call_absU {X : Cx} : CallR X (.builtin "abs") rAbs := call_abs
/-! ### steps -/
section
variable {K : PySem.W.Frag} {σ : L2.St} {H H' : Hp} {Q : VK} {v x y : V} {i j : Int}
theorem r_bool {b : Bool} (q : Q (.int (if b then 1 else 0)) H) : rInt1 [.bl b] H Q := .inr ⟨b, rfl, q⟩
theorem r_abs (q : Q (.int (i.natAbs : Nat)) H) : rAbs [.int i] H Q := ⟨i, rfl, by
  have e : (if i < 0 then -i else i) = (i.natAbs : Int) := by split <;> omega
  rw [e]
  exact q⟩
theorem r_catT {p q : Addr} {xs ys : List V} (hp : SqT K H p xs) (hq : SqT K H q ys) (nx : xs ≠ []) (ny : ys ≠ []) (hz : xs.length + ys.length ≤ 1000) (k : ∀ l, H l = none → Q (.ref l) (upd H l (.tup (xs ++ ys)))) : rAddU K (.ref p) (.ref q) H Q :=
  .inr (.inr (.inr ⟨p, q, xs, ys, rfl, rfl, hp, hq, by rw [sizeLine_eq]; omega, fun z => absurd z nx, fun _ z => absurd z ny, fun _ _ => k⟩))
theorem r_pop0 {p : Addr} {xs : List V} (h : H p = some (.lst (x :: xs))) (q : Q x (upd H p (.lst xs))) : rPopAt (.ref p) [.int 0] H Q :=
  ⟨p, x :: xs, 0, 0, x, rfl, rfl, h, by decide, by decide, by
    show (if _ then _ else _) = _
    simp, rfl, q⟩
theorem r_isiT2 {a n m : String} {b c : Bool} {tp : Addr} (hT : H tp = some (.tup [.ty n, .ty m])) (ty : TyX K H x (.type a)) (e1 : kitB a n = some b) (e2 : kitB a m = some c) (q : Q (.bl (b || c)) H) : rIsiT K [x, .ref tp] H Q := by
  refine ⟨x, tp, [.ty n, .ty m], .type a, [.type n, .type m], b || c, rfl, hT, .cons (.ty n) (.cons (.ty m) .nil), ty, ?_, q⟩
  refine kitAny_cons (kit_ty e1) (r := b || c) (fun hb => ?_) (fun hb => by rw [hb]; rfl)
  subst hb
  refine kitAny_cons (kit_ty e2) (fun hc => ?_) (fun hc => by rw [hc]; rfl)
  subst hc
  exact kitAny_nil
end
theorem r_eqP {x y : V} {H : Hp} {Q : VK} (h : scal x y = true) (q : Q (.bl (decide (x = y))) H) : rEq x y H Q := ⟨h, q⟩
theorem r_gunl {K : PySem.W.Frag} {σ : L2.St} {H : Hp} {N : L2.St → Hp → Prop} {vs : List V} {u : TGs} {n : Nat} {a : Addr} (h : SqL K H a vs) (hl : vs.length = n) (k : u vs σ H N) : gUnl K n u (.ref a) σ H N := ⟨a, vs, rfl, h, hl, k⟩
theorem r_slT {K : PySem.W.Frag} {H : Hp} {Q : VK} {p : Addr} {xs : List V} {n : Nat} (h : SqT K H p xs) (k1 : xs.length ≤ n → Q (.ref p) H) (k2 : ∀ l, H l = none → Q (.ref l) (upd H l (.tup (xs.take n)))) : rSlU K (.ref p) none (some (n : Int)) H Q := by
  refine .inr (.inr ⟨p, xs, rfl, h, fun z => k1 ?_, fun _ l hl => ?_⟩)
  · have e := z.2
    rw [HT.sIx_nat] at e
    omega
  · rw [cutV_to]
    exact k2 l hl
theorem cutV_from (xs : List V) (n : Nat) : cutV xs (some (n : Int)) none = xs.drop n := by
  unfold cutV
  rw [HT.sIx_nat, HT.sIx_none]
  by_cases h : n ≤ xs.length
  · rw [Nat.min_eq_left h, List.take_of_length_le (by rw [List.length_drop]; omega)]
  · rw [Nat.min_eq_right (by omega), Nat.sub_self, List.take_zero, List.drop_eq_nil_of_le (by omega)]
theorem r_break {σ : L2.St} {H : Hp} {D : Ends} (q : D.bk σ H) : tBreak D σ H := q
theorem r_yes {σ : L2.St} {H : Hp} {QB : Bool → Hp → Prop} (q : QB true H) : tYes σ H QB := q
theorem _root_.L2.Room.units65 {k : Nat} {A : Around} (r : L2.Room k A) : A.units + 65 < cLine := by
  have := r.un
  omega
theorem r_lcRo {ta : TA} {g : TG} {tt : TT} {te : TE} {vs : List Nat} {σ : L2.St} {H : Hp} {Q : VK} (h : ta σ H fun us H1 => ∃ j : Int, us = [.int j] ∧ -(2 ^ 62) ≤ j ∧ j < 2 ^ 62 ∧ ∀ D, H1 D = none → ∃ W : Nat → Nat → Hp → Prop, (∃ m, W 0 m (upd H1 D (.lst []))) ∧ ∀ i m H, W i m H →
  ((Itr 0 j.toNat).stop i H ∧ Q (.ref D) H) ∨ ((Itr 0 j.toNat).go i H ∧ ∃ Nx : Hp → Prop, (∀ H', Nx H' → ∃ m', m' < m ∧ W (i + 1) m' H') ∧ ∀ x H', (Itr 0 j.toNat).yld i H x H' → g x (wipe σ vs) H' fun σ2 H2 => wipe σ2 vs = wipe σ vs ∧ tt σ2 H2 fun b H3 =>
    if b = true then te σ2 H3 fun y H4 => ∃ acc, H4 D = some (.lst acc) ∧ acc.length < sizeLine ∧ Nx (upd H4 D (.lst (acc ++ [y]))) else Nx H3)) : tLc (iRng1 ta) g tt te vs σ H Q := h
/-- [.. for x in range(n)] -/
theorem l_lcR {n : Int} {g : TG} {tt : TT} {te : TE} {vs : List Nat} {σ : L2.St} {H1 : Hp} {Qd : Addr → Hp → Prop} (n0 : -1000000 ≤ n) (n1 : n ≤ 1000000) (Pv : Addr → Nat → Hp → Prop) (h0 : ∀ D, H1 D = none → Pv D 0 (upd H1 D (.lst [])))
    (hs : ∀ D (i : Nat) H, H1 D = none → (i : Int) < n → Pv D i H → g (.int (i : Nat)) (wipe σ vs) H fun σ2 H2 => wipe σ2 vs = wipe σ vs ∧ tt σ2 H2 fun b H3 =>
      if b = true then te σ2 H3 fun y H4 => ∃ acc, H4 D = some (.lst acc) ∧ acc.length < sizeLine ∧ Pv D (i + 1) (upd H4 D (.lst (acc ++ [y]))) else Pv D (i + 1) H3) (hd : ∀ D H, H1 D = none → Pv D n.toNat H → Qd D H) :
    ∃ j : Int, [V.int n] = [.int j] ∧ -(2 ^ 62) ≤ j ∧ j < 2 ^ 62 ∧ ∀ D, H1 D = none → ∃ W : Nat → Nat → Hp → Prop, (∃ m, W 0 m (upd H1 D (.lst []))) ∧ ∀ i m H, W i m H →
  ((Itr 0 j.toNat).stop i H ∧ Qd D H) ∨ ((Itr 0 j.toNat).go i H ∧ ∃ Nx : Hp → Prop, (∀ H', Nx H' → ∃ m', m' < m ∧ W (i + 1) m' H') ∧ ∀ x H', (Itr 0 j.toNat).yld i H x H' → g x (wipe σ vs) H' fun σ2 H2 => wipe σ2 vs = wipe σ vs ∧ tt σ2 H2 fun b H3 =>
    if b = true then te σ2 H3 fun y H4 => ∃ acc, H4 D = some (.lst acc) ∧ acc.length < sizeLine ∧ Nx (upd H4 D (.lst (acc ++ [y]))) else Nx H3) := by
  refine ⟨n, rfl, by omega, by omega, fun D hD => lc_range (lo := 0) (Pv D) (h0 D hD) (fun i H hi p => ?_) fun H p => hd D H hD p⟩
  have z := hs D i H hD (by omega) p
  rw [Int.zero_add]
  exact z
/-- for c in range(1, n) -/
theorem l_R1n {n : Nat} {g : TG} {tb : TS} {σ : L2.St} {H : Hp} {D : Ends} (h1 : 1 ≤ n) (h2 : n ≤ 1000000) (Pv : Nat → L2.St → Hp → Prop) (p0 : Pv 1 σ H)
    (ht : ∀ (c : Nat) σ H, 1 ≤ c → c < n → Pv c σ H → g (.int (c : Nat)) σ H fun σ2 H2 => tb { D with nx := Pv (c + 1), ct := Pv (c + 1), bk := D.nx } σ2 H2) (hd : ∀ σ H, Pv n σ H → D.nx σ H) :
    ∃ i j : Int, [V.int 1, V.int (n : Nat)] = [.int i, .int j] ∧ (-(2 ^ 62) ≤ i ∧ i < 2 ^ 62 ∧ -(2 ^ 62) ≤ j ∧ j < 2 ^ 62) ∧ LoopW (Itr i (j - i).toNat) g tb D σ H := by
  refine ⟨1, n, rfl, ⟨by omega, by omega, by omega, by omega⟩, for_range (fun i => Pv (i + 1)) p0 (fun i σ H hi p => ?_) fun σ H p => hd σ H ?_⟩
  · have z := ht (i + 1) σ H (by omega) (by omega) p
    rw [show (1 : Int) + (i : Nat) = ((i + 1 : Nat) : Int) by omega]
    exact z
  · have e : ((n : Int) - 1).toNat + 1 = n := by omega
    rw [e] at p
    exact p
theorem r_lcLo {K : PySem.W.Frag} {tl : TE} {g : TG} {tt : TT} {te : TE} {vs : List Nat} {σ : L2.St} {H : Hp} {Q : VK} (h : tl σ H fun x H1 => ∃ a, x = .ref a ∧ (∃ xs, SqL K H1 a xs) ∧ ∀ D, H1 D = none → ∃ W : Nat → Nat → Hp → Prop, (∃ m, W 0 m (upd H1 D (.lst []))) ∧ ∀ i m H, W i m H →
  ((Itl K a).stop i H ∧ Q (.ref D) H) ∨ ((Itl K a).go i H ∧ ∃ Nx : Hp → Prop, (∀ H', Nx H' → ∃ m', m' < m ∧ W (i + 1) m' H') ∧ ∀ x H', (Itl K a).yld i H x H' → g x (wipe σ vs) H' fun σ2 H2 => wipe σ2 vs = wipe σ vs ∧ tt σ2 H2 fun b H3 =>
    if b = true then te σ2 H3 fun y H4 => ∃ acc, H4 D = some (.lst acc) ∧ acc.length < sizeLine ∧ Nx (upd H4 D (.lst (acc ++ [y]))) else Nx H3)) : tLc (iList K tl) g tt te vs σ H Q := h
theorem l_lcL {K : PySem.W.Frag} {a : Addr} {xs : List V} {g : TG} {tt : TT} {te : TE} {vs : List Nat} {σ : L2.St} {H1 : Hp} {Qd : Addr → Hp → Prop} (hs0 : SqL K H1 a xs) (Pv : Addr → Nat → Hp → Prop) (h0 : ∀ D, H1 D = none → Pv D 0 (upd H1 D (.lst []))) (hl : ∀ D i H, Pv D i H → SqL K H a xs)
    (hs : ∀ D (i : Nat) x H, H1 D = none → xs[i]? = some x → Pv D i H → g x (wipe σ vs) H fun σ2 H2 => wipe σ2 vs = wipe σ vs ∧ tt σ2 H2 fun b H3 =>
      if b = true then te σ2 H3 fun y H4 => ∃ acc, H4 D = some (.lst acc) ∧ acc.length < sizeLine ∧ Pv D (i + 1) (upd H4 D (.lst (acc ++ [y]))) else Pv D (i + 1) H3) (hd : ∀ D H, H1 D = none → Pv D xs.length H → Qd D H) :
    ∃ b, V.ref a = .ref b ∧ (∃ xs, SqL K H1 b xs) ∧ ∀ D, H1 D = none → ∃ W : Nat → Nat → Hp → Prop, (∃ m, W 0 m (upd H1 D (.lst []))) ∧ ∀ i m H, W i m H →
  ((Itl K b).stop i H ∧ Qd D H) ∨ ((Itl K b).go i H ∧ ∃ Nx : Hp → Prop, (∀ H', Nx H' → ∃ m', m' < m ∧ W (i + 1) m' H') ∧ ∀ x H', (Itl K b).yld i H x H' → g x (wipe σ vs) H' fun σ2 H2 => wipe σ2 vs = wipe σ vs ∧ tt σ2 H2 fun b H3 =>
    if b = true then te σ2 H3 fun y H4 => ∃ acc, H4 D = some (.lst acc) ∧ acc.length < sizeLine ∧ Nx (upd H4 D (.lst (acc ++ [y]))) else Nx H3) :=
  ⟨a, rfl, ⟨xs, hs0⟩, fun D hD => lc_list (Pv D) (h0 D hD) (fun i H _ p => hl D i H p) (fun i x H hx p => hs D i x H hD hx p) fun H p => hd D H hD p⟩
/-- a test whose outcome does not matter -/
theorem any_test {tt : TT} {σ : L2.St} {H : Hp} {QB : Bool → Hp → Prop} {S : Bool → Hp → Prop} (h : ∀ QB : Bool → Hp → Prop, (∀ c H1, S c H1 → QB c H1) → tt σ H QB) (k : ∀ c H1, S c H1 → QB c H1) : tt σ H QB := h QB k
theorem any_val {te : TE} {σ : L2.St} {H : Hp} {Q : VK} {S : V → Hp → Prop} (h : ∀ Q : VK, (∀ v H1, S v H1 → Q v H1) → te σ H Q) (k : ∀ v H1, S v H1 → Q v H1) : te σ H Q := h Q k
/-! ### bits -/
theorem or_val (x b y : Nat) : Builtin.bitOr (Builtin.bitOr (x : Int) (1 * 2 ^ ((b : Int)).toNat)) (y : Int) = ((x ||| 1 <<< b ||| y : Nat) : Int) := by
  have e : (1 * 2 ^ ((b : Int)).toNat : Int) = ((1 <<< b : Nat) : Int) := by
    rw [Int.toNat_natCast, Nat.one_shiftLeft]
    push_cast
    omega
  have e1 : Builtin.bitOr (x : Int) ((1 <<< b : Nat) : Int) = ((x ||| 1 <<< b : Nat) : Int) := by
    rw [Bits.bitOr_pp (Int.natCast_nonneg _) (Int.natCast_nonneg _), Int.toNat_natCast, Int.toNat_natCast]
  rw [e, e1, Bits.bitOr_pp (Int.natCast_nonneg _) (Int.natCast_nonneg _), Int.toNat_natCast, Int.toNat_natCast]
theorem bit_val (x k : Nat) : decide (V.int (Builtin.bitAnd ((x : Int) / 2 ^ ((k : Int)).toNat) 1) = V.int 1) = x.testBit k := by
  have e : Builtin.bitAnd ((x : Int) / 2 ^ ((k : Int)).toNat) 1 = (x : Int) / 2 ^ k % 2 := by
    have z := Bits.bit_at (x := (x : Int)) k
    have hp : (0 : Int) ≤ 2 ^ k := Int.pow_nonneg (by decide)
    rw [Int.fdiv_eq_ediv_of_nonneg _ hp] at z
    rw [Int.toNat_natCast]
    exact z
  rw [e, Bool.eq_iff_iff, decide_eq_true_iff, Nat.testBit_eq_decide_div_mod_eq, decide_eq_true_iff]
  have e2 : (x : Int) / 2 ^ k % 2 = ((x / 2 ^ k % 2 : Nat) : Int) := by push_cast; rfl
  rw [e2]
  constructor
  · intro h
    have := V.int.inj h
    omega
  · intro h
    rw [h]
    rfl
/-! ### the box of the draws: a number and a list of heaps -/
def M31 : Int := 2147483629
structure Bx (H : Hp) (b h : Addr) : Prop where
  ne : b ≠ h
  ex : ∃ (z : Int) (ns : List Int), H b = some (.lst [.int z, .ref h]) ∧ 0 ≤ z ∧ z < M31 ∧ H h = some (.lst (ns.map V.int)) ∧ ns.length ≤ 63
structure Dr2 (b h : Addr) (H H' : Hp) : Prop where
  hh : ∀ x o, x ≠ b → x ≠ h → H x = some o → H' x = some o
  st : Bx H' b h
abbrev A2 (b h : Addr) : Addr → Prop := fun x => x = b ∨ x = h
structure W2 (b h : Addr) (G H : Hp) : Prop where
  g : Ex G H
  nb : G b = none
  nh : G h = none
  st : Bx H b h
section
variable {A : Addr → Prop} {b h p : Addr} {G H G1 H1 H2 : Hp} {o : HO}
theorem Bx.gb (s : Bx H b h) : ∃ o, H b = some o := by
  obtain ⟨_, z, ns, h1, _⟩ := s
  exact ⟨_, h1⟩
theorem Bx.gh (s : Bx H b h) : ∃ o, H h = some o := by
  obtain ⟨_, z, ns, _, _, _, h1, _⟩ := s
  exact ⟨_, h1⟩
theorem Bx.up (s : Bx H b h) (e : Ex H H1) : Bx H1 b h := by
  obtain ⟨n, z, ns, h1, h2, h3, h4, h5⟩ := s
  exact ⟨n, z, ns, e _ _ h1, h2, h3, e _ _ h4, h5⟩
theorem Bx.nb (s : Bx H b h) (hp : H p = none) : p ≠ b := fun z => by
  obtain ⟨o, e⟩ := s.gb
  rw [← z, hp] at e
  cases e
theorem Bx.nh (s : Bx H b h) (hp : H p = none) : p ≠ h := fun z => by
  obtain ⟨o, e⟩ := s.gh
  rw [← z, hp] at e
  cases e
theorem Bx.put (s : Bx H b h) (h1 : p ≠ b) (h2 : p ≠ h) : Bx (upd H p o) b h := by
  obtain ⟨n, z, ns, e1, e2, e3, e4, e5⟩ := s
  exact ⟨n, z, ns, by rw [upd_ne (Ne.symm h1)]; exact e1, e2, e3, by rw [upd_ne (Ne.symm h2)]; exact e4, e5⟩
theorem Bx.na (s : Bx H b h) (hp : H p = none) : ¬ A2 b h p := fun z => z.elim (s.nb hp) (s.nh hp)
theorem Dr2.refl (s : Bx H b h) : Dr2 b h H H := ⟨fun _ _ _ _ e => e, s⟩
theorem Dr2.trans (x : Dr2 b h H H1) (y : Dr2 b h H1 H2) : Dr2 b h H H2 := ⟨fun u o n m e => y.hh u o n m (x.hh u o n m e), y.st⟩
theorem Dr2.ex (s : Bx H b h) (e : Ex H H1) : Dr2 b h H H1 := ⟨fun u o _ _ q => e u o q, s.up e⟩
theorem Dr2.then (x : Dr2 b h H H1) (e : Ex H1 H2) : Dr2 b h H H2 := x.trans (.ex x.st e)
theorem Dr2.new (x : Dr2 b h H H1) (hp : H1 p = none) : Dr2 b h H (upd H1 p o) := x.then (Same.new (Same.refl H1) hp)
theorem Dr2.mut (x : Dr2 b h H H1) (hp : H p = none) (h1 : p ≠ b) (h2 : p ≠ h) : Dr2 b h H (upd H1 p o) :=
  ⟨fun u q n m e => by rw [upd_ne (ne_of_none e hp)]; exact x.hh u q n m e, x.st.put h1 h2⟩
theorem Dr2.fresh (x : Dr2 b h H H1) (hp : H1 p = none) : H p = none := by
  cases e : H p with
  | none => rfl
  | some o =>
    rw [x.hh p o (x.st.nb hp) (x.st.nh hp) e] at hp
    cases hp
theorem Dr2.gr (g : Ex G H) (nb : G b = none) (nh : G h = none) (s : Bx H b h) (d : Dr2 b h H H1) : Gr (A2 b h) G H G H1 where
  gg := Same.refl G
  gh := fun u x e => d.hh u x (ne_of_none e nb) (ne_of_none e nh) (g u x e)
  hh := fun u x z e => d.hh u x (fun q => z (.inl q)) (fun q => z (.inr q)) e
  th := fun u x e => by
    by_cases h1 : u = b
    · rw [h1]
      exact d.st.gb
    by_cases h2 : u = h
    · rw [h2]
      exact d.st.gh
    exact ⟨x, d.hh u x h1 h2 e⟩
  nw := fun u x e z => z
theorem W2.nb1 (x : W2 b h G H) (t : Gr A G H G1 H1) : G1 b = none := by
  obtain ⟨o, e⟩ := x.st.gb
  exact t.nw b _ e x.nb
theorem W2.nh1 (x : W2 b h G H) (t : Gr A G H G1 H1) : G1 h = none := by
  obtain ⟨o, e⟩ := x.st.gh
  exact t.nw h _ e x.nh
theorem W2.step (x : W2 b h G H) (t : Gr (A2 b h) G H G1 H1) (s : Bx H1 b h) : W2 b h G1 H1 := ⟨t.gh, x.nb1 t, x.nh1 t, s⟩
theorem W2.pure (x : W2 b h G H) (t : Gr A0 G H G1 H1) : W2 b h G1 H1 := ⟨t.gh, x.nb1 t, x.nh1 t, x.st.up t.same⟩
theorem W2.ex (x : W2 b h G H) (e : Ex H H1) : W2 b h G H1 := ⟨x.g.trans e, x.nb, x.nh, x.st.up e⟩
theorem W2.gdr (x : W2 b h G H) (d : Dr2 b h H H1) : Gr (A2 b h) G H G H1 := Dr2.gr x.g x.nb x.nh x.st d
theorem W2.dr (x : W2 b h G H) (d : Dr2 b h H H1) : W2 b h G H1 := x.step (x.gdr d) d.st
end
def spPick : Sp := fun vs H Q _ => ∃ (b h : Addr) (n : Int), vs = [.ref b, .int n] ∧ Bx H b h ∧ 0 < n ∧ n ≤ 1000 ∧ ∀ (d : Int) H', 0 ≤ d → d < n → Dr2 b h H H' → Q (.int d) H'
def spDraws (K : PySem.W.Frag) : Sp := fun vs H Q _ => ∃ (s : Addr) (ns : List Int), vs = [.ref s] ∧ SqL K H s (ns.map V.int) ∧ ns.length ≤ 63 ∧ ∀ b h H', Ex H H' → H b = none → H h = none → Bx H' b h → Q (.ref b) H'
def spSay : Sp := fun vs H Q _ => ∃ (b h : Addr) (n : Int), vs = [.ref b, .int n] ∧ Bx H b h ∧ 0 < n ∧ n ≤ 100 ∧ ∀ (t : Str) H', 0 < t.length → (t.length : Int) ≤ n → Dr2 b h H H' → Q (.str t) H'
theorem nat31 {z : Int} (h0 : 0 ≤ z) (h : z < M31) : z.natAbs < 2 ^ 31 := by
  unfold M31 at h
  have e : (2 : Nat) ^ 31 = 2147483648 := by decide
  omega
theorem mix31 (e : Int) : 0 ≤ e % M31 ∧ e % M31 < M31 := ⟨Int.emod_nonneg _ (by decide), Int.emod_lt_of_pos _ (by decide)⟩
/-! ### signs -/
def Tk (H H' : Hp) : Prop := ∀ p xs, H p = some (.tup xs) → H' p = some (.tup xs)
/-- a tuple, of the heap or of the written part -/
def KT (K : PySem.W.Frag) (a : Addr) (xs : List V) : Prop := ∃ (o : Obj) (its : Array Value) (n : Nat), K.lookup a = some o ∧ o.cls = .type "tuple" ∧ o.data = .seq its n ∧ its.size ≤ sizeLine ∧ Vals xs its.toList
def Tu (K : PySem.W.Frag) (H : Hp) (a : Addr) (xs : List V) : Prop := H a = some (.tup xs) ∨ KT K a xs
theorem Tu.sq {K : PySem.W.Frag} {H : Hp} {a : Addr} {xs : List V} (h : Tu K H a xs) : SqT K H a xs := h.elim (fun z => sqT z) fun z => .inr z
theorem Tu.tk {K : PySem.W.Frag} {H H' : Hp} {a : Addr} {xs : List V} (t : Tk H H') (h : Tu K H a xs) : Tu K H' a xs := h.imp (fun z => t _ _ z) id
theorem Tu.up {K : PySem.W.Frag} {H H' : Hp} {a : Addr} {xs : List V} (e : Ex H H') (h : Tu K H a xs) : Tu K H' a xs := h.imp (fun z => e _ _ z) id
/-- a sign's two numbers; only signs of the border may be of the written part -/
def Ts (K : PySem.W.Frag) (H : Hp) (a : Addr) (x : Tl.Sg) : Prop := H a = some (.tup [.int (x.1 : Nat), .int (x.2 : Nat)]) ∨ (x.1 = 0 ∧ KT K a [.int (x.1 : Nat), .int (x.2 : Nat)])
theorem Ts.sq {K : PySem.W.Frag} {H : Hp} {a : Addr} {x : Tl.Sg} (h : Ts K H a x) : SqT K H a [.int (x.1 : Nat), .int (x.2 : Nat)] := h.elim (fun z => sqT z) fun z => .inr z.2
theorem Ts.tu {K : PySem.W.Frag} {H : Hp} {a : Addr} {x : Tl.Sg} (h : Ts K H a x) : Tu K H a [.int (x.1 : Nat), .int (x.2 : Nat)] := h.elim (fun z => .inl z) fun z => .inr z.2
theorem Ts.tk {K : PySem.W.Frag} {H H' : Hp} {a : Addr} {x : Tl.Sg} (t : Tk H H') (h : Ts K H a x) : Ts K H' a x := h.imp (fun z => t _ _ z) id
theorem Ts.up {K : PySem.W.Frag} {H H' : Hp} {a : Addr} {x : Tl.Sg} (e : Ex H H') (h : Ts K H a x) : Ts K H' a x := h.imp (fun z => e _ _ z) id
theorem Ts.own {K : PySem.W.Frag} {H : Hp} {a : Addr} {x : Tl.Sg} (h : Ts K H a x) (h0 : 0 < x.1) : H a = some (.tup [.int (x.1 : Nat), .int (x.2 : Nat)]) := h.elim id fun z => absurd z.1 (by omega)
def SgV (K : PySem.W.Frag) (G : Hp) (v : V) (x : Tl.Sg) : Prop := ∃ p, v = .ref p ∧ Ts K G p x
theorem SgV.up {K : PySem.W.Frag} {G G' : Hp} {v : V} {x : Tl.Sg} (e : Ex G G') (h : SgV K G v x) : SgV K G' v x := h.imp fun _ z => ⟨z.1, z.2.up e⟩
abbrev sgD (x : Tl.Sg) : PyData := .tuple [.int (x.1 : Nat), .int (x.2 : Nat)]
theorem SgV.dp {K : PySem.W.Frag} {G : Hp} {v : V} {x : Tl.Sg} (h : SgV K G v x) : Dp K G v (sgD x) := by
  obtain ⟨p, rfl, hp⟩ := h
  exact .tup hp.sq (.cons (.int _) (.cons (.int _) .nil))
theorem sg_shaped (x : Tl.Sg) : SeqAt.shaped (sgD x) = true := by
  rfl
theorem sg_eqv (x y : Tl.Sg) : PyData.eqv (sgD x) (sgD y) = decide (x = y) := by
  obtain ⟨a, b⟩ := x
  obtain ⟨c, d⟩ := y
  show (PyData.eqv (.int a) (.int c) && (PyData.eqv (.int b) (.int d) && true)) = _
  show (((a : Int) == c) && (((b : Int) == d) && true)) = _
  rw [Bool.eq_iff_iff]
  simp
  omega
theorem r_eqSg {K : PySem.W.Frag} {H : Hp} {Q : VK} {v w : V} {x y : Tl.Sg} (h1 : SgV K H v x) (h2 : SgV K H w y) (q : Q (.bl (decide (x = y))) H) : rEqU K v w H Q :=
  .inr ⟨_, _, h1.dp, h2.dp, sg_shaped x, sg_shaped y, by rw [sg_eqv]; exact q⟩
/-! ### two lists side by side -/
inductive P2 {α β : Type} (R : α → β → Prop) : List α → List β → Prop where
  | nil : P2 R [] []
  | cons {a : α} {b : β} {l : List α} {m : List β} (h : R a b) (t : P2 R l m) : P2 R (a :: l) (b :: m)
section
variable {α β : Type} {R S : α → β → Prop} {l l' : List α} {m m' : List β}
theorem P2.len (h : P2 R l m) : l.length = m.length := by
  induction h with
  | nil => rfl
  | cons h t ih => rw [List.length_cons, List.length_cons, ih]
theorem P2.get (h : P2 R l m) : ∀ {i : Nat} {a : α}, l[i]? = some a → ∃ b, m[i]? = some b ∧ R a b := by
  induction h with
  | nil => intro i a e; simp at e
  | @cons a b l m h t ih =>
    intro i x e
    cases i with
    | zero => exact ⟨b, rfl, by simp at e; exact e ▸ h⟩
    | succ i =>
      simp at e
      simpa using ih e
theorem P2.get' (h : P2 R l m) : ∀ {i : Nat} {b : β}, m[i]? = some b → ∃ a, l[i]? = some a ∧ R a b := by
  induction h with
  | nil => intro i a e; simp at e
  | @cons a b l m h t ih =>
    intro i x e
    cases i with
    | zero => exact ⟨a, rfl, by simp at e; exact e ▸ h⟩
    | succ i =>
      simp at e
      simpa using ih e
theorem P2.imp (h : P2 R l m) (k : ∀ a b, R a b → S a b) : P2 S l m := by
  induction h with
  | nil => exact .nil
  | cons h t ih => exact .cons (k _ _ h) ih
theorem P2.app (h : P2 R l m) (h' : P2 R l' m') : P2 R (l ++ l') (m ++ m') := by
  induction h with
  | nil => exact h'
  | cons h t ih => exact .cons h ih
theorem P2.snoc {a : α} {b : β} (h : P2 R l m) (k : R a b) : P2 R (l ++ [a]) (m ++ [b]) := h.app (.cons k .nil)
theorem P2.take (h : P2 R l m) : ∀ n, P2 R (l.take n) (m.take n) := by
  induction h with
  | nil => intro n; simp; exact .nil
  | cons h t ih =>
    intro n
    cases n with
    | zero => exact .nil
    | succ n => exact .cons h (ih n)
theorem P2.drop (h : P2 R l m) : ∀ n, P2 R (l.drop n) (m.drop n) := by
  induction h with
  | nil => intro n; simp; exact .nil
  | cons h t ih =>
    intro n
    cases n with
    | zero => exact .cons h t
    | succ n => exact ih n
end
theorem P2.join {α β γ : Type} {R : α → γ → Prop} {S : β → γ → Prop} {U : α → β → Prop} {l : List α} {m : List β} {n : List γ} (h : P2 R l n) (k : ∀ a b c, R a c → S b c → U a b) (g : P2 S m n) : P2 U l m := by
  induction h generalizing m with
  | nil => cases g; exact .nil
  | cons h t ih => cases g with
    | cons h' t' => exact .cons (k _ _ _ h h') (ih t')
/-- a list of signs -/
abbrev SgL (K : PySem.W.Frag) (G : Hp) : List V → List Tl.Sg → Prop := P2 (SgV K G)
theorem SgL.up {K : PySem.W.Frag} {G G' : Hp} {l : List V} {m : List Tl.Sg} (e : Ex G G') (h : SgL K G l m) : SgL K G' l m := h.imp fun _ _ z => z.up e
theorem SgL.dps {K : PySem.W.Frag} {G : Hp} {l : List V} {m : List Tl.Sg} (h : SgL K G l m) : DpAll K G l (m.map sgD) := by
  induction h with
  | nil => exact .nil
  | cons h t ih => exact .cons h.dp ih
theorem sgs_shaped (m : List Tl.Sg) : SeqAt.shaped (.list (m.map sgD)) = true := by
  have key : PyData.canLayAll0 (m.map sgD) = true ∧ PyData.depthAll (m.map sgD) ≤ 2 := by
    induction m with
    | nil => exact ⟨rfl, by decide⟩
    | cons x r ih =>
      refine ⟨?_, ?_⟩
      · show ((sgD x).canLay0 && PyData.canLayAll0 (r.map sgD)) = true
        rw [ih.1]
        rfl
      · show max (sgD x).depth (PyData.depthAll (r.map sgD)) ≤ 2
        have e : (sgD x).depth ≤ 2 := by simp [sgD, PyData.depth, PyData.depthAll]
        omega
  show (PyData.canLayAll0 (m.map sgD) && decide (_ ≤ 64)) = true
  rw [key.1]
  have e : (PyData.list (m.map sgD)).depth = PyData.depthAll (m.map sgD) + 1 := by first | rfl | exact Nat.add_comm _ _
  show decide (_ ≤ 64) = true
  rw [decide_eq_true_iff, e]
  omega
/-- l.index(x), l a list of signs -/
theorem r_indexSg {K : PySem.W.Frag} {H : Hp} {Q : VK} {a : Addr} {xs : List V} {v : V} {m : List Tl.Sg} {x : Tl.Sg} {j : Nat} (hl : SqL K H a xs) (hm : SgL K H xs m) (hv : SgV K H v x) (hj : m[j]? = some x) (hno : ∀ i, i < j → m[i]? ≠ some x) (q : Q (.int (j : Nat)) H) :
    rIndexD K (.ref a) [v] H Q := by
  refine ⟨a, v, sgD x, m.map sgD, j, sgD x, rfl, rfl, .lst hl hm.dps, hv.dp, sgs_shaped m, sg_shaped x, by rw [List.getElem?_map, hj]; rfl, by rw [sg_eqv]; simp, fun i z hi hz => ?_, q⟩
  rw [List.getElem?_map] at hz
  obtain ⟨y, hy, rfl⟩ := Option.map_eq_some_iff.mp hz
  rw [sg_eqv]
  refine decide_eq_false fun e => hno i hi ?_
  rw [hy, e]
end Dk

/-! immutable data: kept as long as tuples are kept -/
namespace Dk
open PySem PySem.Spec PyProof.Rows L2
section
variable {H H' H1 H2 : Hp} {b h p l : Addr} {xs ys : List V} {o : HO}
theorem Tk.refl (H : Hp) : Tk H H := fun _ _ e => e
theorem Tk.trans (x : Tk H H1) (y : Tk H1 H2) : Tk H H2 := fun p xs e => y p xs (x p xs e)
theorem Tk.ex (e : Ex H H') : Tk H H' := fun p xs h => e _ _ h
theorem Tk.put (e : H l = some (.lst xs)) : Tk H (upd H l o) := fun p ys h => by
  have n : p ≠ l := fun z => by rw [z, e] at h; cases h
  rw [upd_ne n]
  exact h
theorem Tk.new (e : H p = none) : Tk H (upd H p o) := .ex (Same.new (Same.refl H) e)
theorem Bx.tk (s : Bx H b h) (d : Dr2 b h H H') : Tk H H' := fun p xs e => by
  obtain ⟨_, z, ns, h1, _, _, h2, _⟩ := s
  exact d.hh p _ (fun q => by rw [q, h1] at e; cases e) (fun q => by rw [q, h2] at e; cases e) e
end
/-- a relation between values and data that tuples alone bear -/
class Imm {α : Type} (R : Hp → V → α → Prop) : Prop where
  tk : ∀ {H H' : Hp} {v : V} {x : α}, Tk H H' → R H v x → R H' v x
theorem imm {α : Type} {R : Hp → V → α → Prop} [i : Imm R] {H H' : Hp} {v : V} {x : α} (t : Tk H H') (r : R H v x) : R H' v x := i.tk t r
def IntV (H : Hp) (v : V) (n : Nat) : Prop := v = .int (n : Nat)
def StrV (H : Hp) (v : V) (z : Str) : Prop := v = .str z
def PairV (K : PySem.W.Frag) {α β : Type} (R : Hp → V → α → Prop) (S : Hp → V → β → Prop) (H : Hp) (v : V) (x : α × β) : Prop := ∃ (p : Addr) (a b : V), v = .ref p ∧ Tu K H p [a, b] ∧ R H a x.1 ∧ S H b x.2
def TupV (K : PySem.W.Frag) {α : Type} (R : Hp → V → α → Prop) (H : Hp) (v : V) (l : List α) : Prop := ∃ (p : Addr) (xs : List V), v = .ref p ∧ Tu K H p xs ∧ P2 (R H) xs l
instance : Imm IntV := ⟨fun _ h => h⟩
instance : Imm StrV := ⟨fun _ h => h⟩
instance {K : PySem.W.Frag} : Imm (SgV K) := ⟨fun t h => h.imp fun p z => ⟨z.1, z.2.tk t⟩⟩
instance {K : PySem.W.Frag} {α β : Type} {R : Hp → V → α → Prop} {S : Hp → V → β → Prop} [Imm R] [Imm S] : Imm (PairV K R S) := ⟨fun t h => by
  obtain ⟨p, a, b, h1, h2, h3, h4⟩ := h
  exact ⟨p, a, b, h1, h2.tk t, imm t h3, imm t h4⟩⟩
theorem p2_imm {α : Type} {R : Hp → V → α → Prop} [Imm R] {H H' : Hp} {xs : List V} {l : List α} (t : Tk H H') (h : P2 (R H) xs l) : P2 (R H') xs l := h.imp fun _ _ z => imm t z
instance {K : PySem.W.Frag} {α : Type} {R : Hp → V → α → Prop} [Imm R] : Imm (TupV K R) := ⟨fun t h => by
  obtain ⟨p, xs, h1, h2, h3⟩ := h
  exact ⟨p, xs, h1, h2.tk t, p2_imm t h3⟩⟩
section
variable {α β : Type} {R : Hp → V → α → Prop} {S : Hp → V → β → Prop} {K : PySem.W.Frag} {σ : L2.St} {H H' : Hp} {Q : VK} {v u a b : V} {x : α} {y : β} {l m : List α} {xs : List V} {N : L2.St → Hp → Prop}
theorem TupV.ref (h : TupV K R H v l) : ∃ p xs, v = .ref p ∧ Tu K H p xs ∧ P2 (R H) xs l := h
theorem r_ixTV {i : Nat} (h : TupV K R H v l) (hx : l[i]? = some x) (q : ∀ u, R H u x → Q u H) : rIx K v (.int (i : Nat)) H Q := by
  obtain ⟨p, xs, rfl, hp, hl⟩ := h
  obtain ⟨u, hu, hr⟩ := hl.get' hx
  exact r_ixT hp.sq (atI_nat hu) (q u hr)
theorem r_ixTm (h : TupV K R H v (l ++ [x])) (q : ∀ u, R H u x → Q u H) : rIx K v (.int (-1)) H Q := by
  obtain ⟨p, xs, rfl, hp, hl⟩ := h
  have hlen := hl.len
  obtain ⟨u, hu, hr⟩ := hl.get' (i := l.length) (b := x) (by simp)
  rw [List.length_append, List.length_singleton] at hlen
  have e : xs = xs.dropLast ++ [u] := by
    have hne : xs ≠ [] := fun z => by rw [z] at hlen; simp at hlen
    have h1 := (List.dropLast_concat_getLast hne).symm
    have h2 : xs.getLast hne = u := by
      have h3 : xs[xs.length - 1]? = some (xs.getLast hne) := by rw [← List.getLast?_eq_getElem?]; exact List.getLast?_eq_some_getLast hne
      rw [hlen, Nat.add_sub_cancel, hu] at h3
      exact (Option.some.inj h3).symm
    rw [h2] at h1
    exact h1
  rw [e] at hp
  exact r_ixT hp.sq (atI_last _ _) (q u hr)
theorem r_ixP0 {z : α × β} (h : PairV K R S H v z) (q : ∀ u, R H u z.1 → Q u H) : rIx K v (.int 0) H Q := by
  obtain ⟨p, a, b, rfl, hp, ha, hb⟩ := h
  exact r_ixT hp.sq (atI_nat (j := 0) rfl) (q a ha)
theorem r_ixP1 {z : α × β} (h : PairV K R S H v z) (q : ∀ u, S H u z.2 → Q u H) : rIx K v (.int 1) H Q := by
  obtain ⟨p, a, b, rfl, hp, ha, hb⟩ := h
  exact r_ixT hp.sq (atI_nat (j := 1) rfl) (q b hb)
theorem r_ixS0 {z : Tl.Sg} (h : SgV K H v z) (q : Q (.int (z.1 : Nat)) H) : rIx K v (.int 0) H Q := by
  obtain ⟨p, rfl, hp⟩ := h
  exact r_ixT hp.sq (atI_nat (j := 0) rfl) q
theorem r_ixS1 {z : Tl.Sg} (h : SgV K H v z) (q : Q (.int (z.2 : Nat)) H) : rIx K v (.int 1) H Q := by
  obtain ⟨p, rfl, hp⟩ := h
  exact r_ixT hp.sq (atI_nat (j := 1) rfl) q
theorem r_lenTV (h : TupV K R H v l) (q : Q (.int (l.length : Nat)) H) : rLenU K [v] H Q := by
  obtain ⟨p, xs, rfl, hp, hl⟩ := h
  refine r_lenT hp.sq ?_
  rw [hl.len]
  exact q
theorem r_gP {t : TGs} {z : α × β} (h : PairV K R S H v z) (k : ∀ a b, R H a z.1 → S H b z.2 → t [a, b] σ H N) : gTup K 2 t v σ H N := by
  obtain ⟨p, a, b, rfl, hp, ha, hb⟩ := h
  exact r_gtup hp.sq rfl (k a b ha hb)
theorem r_mkP [Imm R] [Imm S] (ha : R H a x) (hb : S H b y) (q : ∀ p H', H p = none → Ex H H' → PairV K R S H' (.ref p) (x, y) → Q (.ref p) H') : [a, b].length ≤ sizeLine ∧ ∀ p, H p = none → Q (.ref p) (upd H p (.tup [a, b])) :=
  r_small nsz fun p hp => q p _ hp (Same.new (Same.refl H) hp) ⟨p, a, b, rfl, .inl upd_same, imm (.new hp) ha, imm (.new hp) hb⟩
theorem r_mkS {i j : Nat} (q : ∀ p H', H p = none → Ex H H' → SgV K H' (.ref p) (i, j) → Q (.ref p) H') : [V.int (i : Nat), V.int (j : Nat)].length ≤ sizeLine ∧ ∀ p, H p = none → Q (.ref p) (upd H p (.tup [V.int (i : Nat), V.int (j : Nat)])) :=
  r_small nsz fun p hp => q p _ hp (Same.new (Same.refl H) hp) ⟨p, rfl, .inl upd_same⟩
theorem r_mkT [Imm R] (h : P2 (R H) xs l) (hl : l.length ≤ 1000) (q : ∀ p H', H p = none → Ex H H' → TupV K R H' (.ref p) l → Q (.ref p) H') : xs.length ≤ sizeLine ∧ ∀ p, H p = none → Q (.ref p) (upd H p (.tup xs)) :=
  r_small (by rw [h.len]; exact hl) fun p hp => q p _ hp (Same.new (Same.refl H) hp) ⟨p, xs, rfl, .inl upd_same, p2_imm (.new hp) h⟩
theorem r_catTV [Imm R] (h1 : TupV K R H v l) (h2 : TupV K R H u m) (hz : l.length + m.length ≤ 1000) (q : ∀ w H', Ex H H' → TupV K R H' w (l ++ m) → Q w H') : rAddU K v u H Q := by
  obtain ⟨p, xs, rfl, hp, hl⟩ := h1
  obtain ⟨p2, ys, rfl, hp2, hm⟩ := h2
  refine .inr (.inr (.inr ⟨p, p2, xs, ys, rfl, rfl, hp.sq, hp2.sq, Nat.le_of_lt (small1000 (by rw [hl.len, hm.len]; exact hz)), fun z => ?_, fun _ z => ?_, fun _ _ p3 hp3 => ?_⟩))
  · subst z
    cases hl
    exact q _ H (Same.refl H) ⟨p2, ys, rfl, hp2, hm⟩
  · subst z
    cases hm
    rw [List.append_nil] at q
    exact q _ H (Same.refl H) ⟨p, xs, rfl, hp, hl⟩
  · exact q _ _ (Same.new (Same.refl H) hp3) ⟨p3, _, rfl, .inl upd_same, p2_imm (.new hp3) (hl.app hm)⟩
theorem P2.all {l' : List V} {m' : List α} {P : V → α → Prop} (h : P2 P l' m') (lo hi : Option Int) : P2 P (cutV l' lo hi) ((m'.drop (HT.sIx m'.length 0 lo)).take (HT.sIx m'.length m'.length hi - HT.sIx m'.length 0 lo)) := by
  unfold cutV
  rw [h.len]
  exact (h.drop _).take _
theorem r_slTV [Imm R] {lo hi : Option Int} (h : TupV K R H v l) (q : ∀ w H', Ex H H' → TupV K R H' w ((l.drop (HT.sIx l.length 0 lo)).take (HT.sIx l.length l.length hi - HT.sIx l.length 0 lo)) → Q w H') : rSlU K v lo hi H Q := by
  obtain ⟨p, xs, rfl, hp, hl⟩ := h
  refine .inr (.inr ⟨p, xs, rfl, hp.sq, fun z => ?_, fun _ p2 hp2 => ?_⟩)
  · have e : ((l.drop (HT.sIx l.length 0 lo)).take (HT.sIx l.length l.length hi - HT.sIx l.length 0 lo)) = l := by
      rw [hl.len] at z
      rw [z.1, z.2, List.drop_zero, Nat.sub_zero, List.take_length]
    rw [e] at q
    exact q _ H (Same.refl H) ⟨p, xs, rfl, hp, hl⟩
  · exact q _ _ (Same.new (Same.refl H) hp2) ⟨p2, _, rfl, .inl upd_same, p2_imm (.new hp2) (hl.all lo hi)⟩
theorem cut_to {l : List α} {k : Nat} : (l.drop (HT.sIx l.length 0 none)).take (HT.sIx l.length l.length (some (k : Int)) - HT.sIx l.length 0 none) = l.take k := by
  rw [HT.sIx_nat, HT.sIx_none, List.drop_zero, Nat.sub_zero]
  by_cases h : k ≤ l.length
  · rw [Nat.min_eq_left h]
  · rw [Nat.min_eq_right (by omega), List.take_length, List.take_of_length_le (by omega)]
theorem cut_from {l : List α} {k : Nat} : (l.drop (HT.sIx l.length 0 (some (k : Int)))).take (HT.sIx l.length l.length none - HT.sIx l.length 0 (some (k : Int))) = l.drop k := by
  rw [HT.sIx_nat, HT.sIx_none]
  by_cases h : k ≤ l.length
  · rw [Nat.min_eq_left h, List.take_of_length_le (by rw [List.length_drop]; omega)]
  · rw [Nat.min_eq_right (by omega), Nat.sub_self, List.take_zero, List.drop_eq_nil_of_le (by omega)]
theorem r_slTo [Imm R] {k : Nat} (h : TupV K R H v l) (q : ∀ w H', Ex H H' → TupV K R H' w (l.take k) → Q w H') : rSlU K v none (some (k : Int)) H Q := r_slTV h (by rw [cut_to]; exact q)
theorem r_slFrom [Imm R] {k : Nat} (h : TupV K R H v l) (q : ∀ w H', Ex H H' → TupV K R H' w (l.drop k) → Q w H') : rSlU K v (some (k : Int)) none H Q := r_slTV h (by rw [cut_from]; exact q)
/-- tuple(list) -/
theorem r_tupLV [Imm R] {p : Addr} (hp : H p = some (.lst xs)) (h : P2 (R H) xs l) (q : ∀ p H', H p = none → Ex H H' → TupV K R H' (.ref p) l → Q (.ref p) H') : rTupU K [.ref p] H Q :=
  r_tupL (sqL hp) fun p2 hp2 => q p2 _ hp2 (Same.new (Same.refl H) hp2) ⟨p2, xs, rfl, .inl upd_same, p2_imm (.new hp2) h⟩
/-- an item of a list -/
theorem r_ixLV {p : Addr} {i : Nat} (hp : H p = some (.lst xs)) (h : P2 (R H) xs l) (hx : l[i]? = some x) (q : ∀ u, R H u x → Q u H) : rIx K (.ref p) (.int (i : Nat)) H Q := by
  obtain ⟨u, hu, hr⟩ := h.get' hx
  exact r_ixL (sqL hp) (atI_nat hu) (q u hr)
theorem r_ixLm {p : Addr} (hp : H p = some (.lst xs)) (h : P2 (R H) xs (l ++ [x])) (q : ∀ u, R H u x → Q u H) : rIx K (.ref p) (.int (-1)) H Q := by
  have hlen := h.len
  obtain ⟨u, hu, hr⟩ := h.get' (i := l.length) (b := x) (by simp)
  rw [List.length_append, List.length_singleton] at hlen
  have e : xs = xs.dropLast ++ [u] := by
    have hne : xs ≠ [] := fun z => by rw [z] at hlen; simp at hlen
    have h1 := (List.dropLast_concat_getLast hne).symm
    have h2 : xs.getLast hne = u := by
      have h3 : xs[xs.length - 1]? = some (xs.getLast hne) := by rw [← List.getLast?_eq_getElem?]; exact List.getLast?_eq_some_getLast hne
      rw [hlen, Nat.add_sub_cancel, hu] at h3
      exact (Option.some.inj h3).symm
    rw [h2] at h1
    exact h1
  rw [e] at hp
  exact r_ixL (sqL hp) (atI_last _ _) (q u hr)
end
/-! equality of pairs of signs -/
abbrev SpV (K : PySem.W.Frag) := PairV K (SgV K) (SgV K)
abbrev spD (x : Tl.Sg × Tl.Sg) : PyData := .tuple [sgD x.1, sgD x.2]
theorem SpV.dp {K : PySem.W.Frag} {G : Hp} {v : V} {x : Tl.Sg × Tl.Sg} (h : SpV K G v x) : Dp K G v (spD x) := by
  obtain ⟨p, a, b, rfl, hp, ha, hb⟩ := h
  exact .tup hp.sq (.cons ha.dp (.cons hb.dp .nil))
theorem sp_shaped (x : Tl.Sg × Tl.Sg) : SeqAt.shaped (spD x) = true := by rfl
theorem sp_eqv (x y : Tl.Sg × Tl.Sg) : PyData.eqv (spD x) (spD y) = decide (x = y) := by
  obtain ⟨a, b⟩ := x
  obtain ⟨c, d⟩ := y
  show (PyData.eqv (sgD a) (sgD c) && (PyData.eqv (sgD b) (sgD d) && true)) = _
  rw [sg_eqv, sg_eqv, Bool.and_true, Bool.eq_iff_iff]
  simp
theorem r_eqSp {K : PySem.W.Frag} {H : Hp} {Q : VK} {v w : V} {x y : Tl.Sg × Tl.Sg} (h1 : SpV K H v x) (h2 : SpV K H w y) (q : Q (.bl (decide (x = y))) H) : rEqU K v w H Q :=
  .inr ⟨_, _, h1.dp, h2.dp, sp_shaped x, sp_shaped y, by rw [sp_eqv]; exact q⟩
theorem r_neSp {K : PySem.W.Frag} {H : Hp} {Q : VK} {v w : V} {x y : Tl.Sg × Tl.Sg} (h1 : SpV K H v x) (h2 : SpV K H w y) (q : Q (.bl (!decide (x = y))) H) : rNeU K v w H Q :=
  .inr ⟨_, _, h1.dp, h2.dp, sp_shaped x, sp_shaped y, by rw [sp_eqv]; exact q⟩
theorem sps_shaped (m : List (Tl.Sg × Tl.Sg)) : SeqAt.shaped (.list (m.map spD)) = true := by
  have key : PyData.canLayAll0 (m.map spD) = true ∧ PyData.depthAll (m.map spD) ≤ 3 := by
    induction m with
    | nil => exact ⟨rfl, by decide⟩
    | cons x r ih =>
      refine ⟨?_, ?_⟩
      · show ((spD x).canLay0 && PyData.canLayAll0 (r.map spD)) = true
        rw [ih.1]
        rfl
      · show max (spD x).depth (PyData.depthAll (r.map spD)) ≤ 3
        have e : (spD x).depth ≤ 3 := by simp [spD, sgD, PyData.depth, PyData.depthAll]
        omega
  show (PyData.canLayAll0 (m.map spD) && decide (_ ≤ 64)) = true
  rw [key.1]
  have e : (PyData.list (m.map spD)).depth = PyData.depthAll (m.map spD) + 1 := by first | rfl | exact Nat.add_comm _ _
  show decide (_ ≤ 64) = true
  rw [decide_eq_true_iff, e]
  omega
theorem sps_dps {K : PySem.W.Frag} {H : Hp} {xs : List V} {m : List (Tl.Sg × Tl.Sg)} (h : P2 (SpV K H) xs m) : DpAll K H xs (m.map spD) := by
  induction h with
  | nil => exact .nil
  | cons h t ih => exact .cons (SpV.dp h) ih
/-- pair not in a list of pairs -/
theorem r_niSp {K : PySem.W.Frag} {H : Hp} {Q : VK} {v : V} {p : Addr} {xs : List V} {x : Tl.Sg × Tl.Sg} {m : List (Tl.Sg × Tl.Sg)} (h1 : SpV K H v x) (hp : H p = some (.lst xs)) (h2 : P2 (SpV K H) xs m) (q : Q (.bl (!decide (x ∈ m))) H) : rNotInD K v (.ref p) H Q := by
  exact ⟨_, _, h1.dp, .lst (sqL hp) (sps_dps h2), sp_shaped x, sps_shaped m, by
    have e : ((m.map spD).any fun z => PyData.eqv z (spD x)) = decide (x ∈ m) := by
      rw [List.any_map, Bool.eq_iff_iff, List.any_eq_true, decide_eq_true_iff]
      constructor
      · rintro ⟨y, hy, e⟩
        rw [Function.comp_apply, sp_eqv, decide_eq_true_iff] at e
        rw [← e]
        exact hy
      · intro h
        exact ⟨x, h, by rw [Function.comp_apply, sp_eqv]; exact decide_eq_true rfl⟩
    rw [e]
    exact q⟩
end Dk

/-! rules of our own, further -/
namespace Dk
open PySem PySem.Spec PyProof.Rows L2
/-! text * number -/
def rRepS : R2 := fun x y H Q => ∃ (z : Str) (n : Nat), x = .str z ∧ y = .int (n : Nat) ∧ z.length ≤ 100 ∧ n ≤ 8000 ∧ Q (.str (Txt.mul z n)) H
theorem op_repS {X : Cx} : OpR X (binaryOp .Mult) rRepS := by
  intro pins s σ H x y v u Q I rx ry h
  obtain ⟨z, n, rfl, rfl, hz, hn, q⟩ := h
  obtain ⟨t, rfl⟩ := rx
  obtain ⟨t', rfl⟩ := ry
  refine SB.mul ⟨?_, fun h1 h2 => ?_, fun h1 h2 => ?_⟩ fun t' k => ⟨.str (Txt.mul z n), H, I.tok _, ⟨_, rfl⟩, q⟩
  · simp
    omega
  · have e : (z.length : Int) * n ≤ 2 ^ 63 - 1 := by
      have : (z.length : Int) * n ≤ 100 * 8000 := Int.mul_le_mul (by omega) (by omega) (by omega) (by omega)
      omega
    have p : (0 : Int) < n := by omega
    have := (Int.le_ediv_iff_mul_le p).mpr e
    omega
  · have e : z.length * n ≤ 100 * 8000 := Nat.mul_le_mul hz hn
    rw [Int.toNat_natCast]
    show decide (z.length * n > sizeLine) = false
    rw [decide_eq_false_iff_not, sizeLine_eq]
    omega
theorem r_repS {H : Hp} {Q : VK} {z : Str} {n : Nat} (hz : z.length ≤ 100) (hn : n ≤ 8000) (q : Q (.str (Txt.mul z n)) H) : rRepS (.str z) (.int (n : Nat)) H Q := ⟨z, n, rfl, rfl, hz, hn, q⟩
theorem cs_mul (z : Str) (n : Nat) : cs (Txt.mul z n) = (List.replicate n (cs z)).flatten := by
  unfold Txt.mul
  by_cases h1 : (n : Int) < 1
  · have e : n = 0 := by omega
    subst e
    rw [if_pos h1]
    rfl
  · rw [if_neg h1]
    by_cases h2 : ((n : Int) == 1 || z.length == 0) = true
    · rw [if_pos h2]
      rw [Bool.or_eq_true, beq_iff_eq, beq_iff_eq] at h2
      rcases h2 with h2 | h2
      · have e : n = 1 := by omega
        subst e
        simp
      · have e : cs z = [] := List.length_eq_zero_iff.mp (by rw [cs_len]; exact h2)
        rw [e]
        simp
    · rw [if_neg h2, Int.toNat_natCast]
      have key : ∀ (m : Nat) (a : Array Nat), ((List.replicate m z.cps).foldl (fun x y => x ++ y) a).toList = a.toList ++ (List.replicate m (cs z)).flatten := by
        intro m
        induction m with
        | zero => intro a; simp
        | succ m ih =>
          intro a
          rw [List.replicate_succ, List.foldl_cons, ih, List.replicate_succ, List.flatten_cons, Array.toList_append, List.append_assoc]
      have q := key n #[]
      simpa using q
theorem len_mul (z : Str) (n : Nat) : (Txt.mul z n).length = n * z.length := by
  rw [← cs_len, cs_mul, List.length_flatten, List.map_replicate, List.sum_replicate_nat, cs_len]
/-! reversed(a tuple) -/
theorem r_forRvo {K : PySem.W.Frag} {te : TE} {g : TG} {tb : TS} {D : Ends} {σ : L2.St} {H : Hp} (h : te σ H fun v H1 => ∃ (a : Addr) (xs : List V), v = .ref a ∧ ((SqL K H1 a xs ∧ LoopW (Itv K a xs.length) g tb D σ H1) ∨ (SqT K H1 a xs ∧ LoopW (RT.ItvT K a xs.length) g tb D σ H1))) : tFor (RT.iRevA K te) g tb D σ H := h
theorem r_mkSi {K : PySem.W.Frag} {H : Hp} {Q : VK} {a b : Int} {i j : Nat} (ea : a = (i : Nat)) (eb : b = (j : Nat)) (q : ∀ p H', H p = none → Ex H H' → SgV K H' (.ref p) (i, j) → Q (.ref p) H') : [V.int a, V.int b].length ≤ sizeLine ∧ ∀ p, H p = none → Q (.ref p) (upd H p (.tup [V.int a, V.int b])) := by
  subst ea eb
  exact r_mkS q
section
variable {α β : Type} {R : Hp → V → α → Prop} {S : Hp → V → β → Prop} {H : Hp} {p : Addr} {u v : V} {x : α} {y : β} {l : List α} {xs : List V}
theorem nP (K : PySem.W.Frag) [Imm R] [Imm S] (hp : H p = none) (ha : R H u x) (hb : S H v y) : ∃ H', H' = upd H p (.tup [u, v]) ∧ Ex H H' ∧ PairV K R S H' (.ref p) (x, y) :=
  ⟨_, rfl, Same.new (Same.refl H) hp, p, u, v, rfl, .inl upd_same, imm (.new hp) ha, imm (.new hp) hb⟩
theorem nS (K : PySem.W.Frag) {a b : Int} {i j : Nat} (hp : H p = none) (ea : a = (i : Nat)) (eb : b = (j : Nat)) : ∃ H', H' = upd H p (.tup [V.int a, V.int b]) ∧ Ex H H' ∧ SgV K H' (.ref p) (i, j) := by
  subst ea eb
  exact ⟨_, rfl, Same.new (Same.refl H) hp, p, rfl, .inl upd_same⟩
theorem nT (K : PySem.W.Frag) [Imm R] (hp : H p = none) (h : P2 (R H) xs l) : ∃ H', H' = upd H p (.tup xs) ∧ Ex H H' ∧ TupV K R H' (.ref p) l :=
  ⟨_, rfl, Same.new (Same.refl H) hp, p, xs, rfl, .inl upd_same, p2_imm (.new hp) h⟩
theorem nL (o : HO) (hp : H p = none) : ∃ H', H' = upd H p o ∧ Ex H H' ∧ H' p = some o := ⟨_, rfl, Same.new (Same.refl H) hp, upd_same⟩
end
/-! within a comprehension -/
theorem k_eqU {X : Cx} {K : PySem.W.Frag} (h : X.K = K) (hu : X.A.units + 64 < cLine) : OpR X (compareOp .Eq) (rEqU K) := h ▸ op_eqU hu
theorem k_neU {X : Cx} {K : PySem.W.Frag} (h : X.K = K) (hu : X.A.units + 64 < cLine) : OpR X (compareOp .NotEq) (rNeU K) := h ▸ op_neU hu
/-! ints in lists -/
section
variable {K : PySem.W.Frag} {H : Hp} {Q : VK} {p : Addr} {ns : List Int} {i : Int}
theorem flat_ints : (ns.map V.int).all flatV = true := by
  rw [List.all_map, List.all_eq_true]
  intro x _
  rfl
theorem inV_ints : inV (.int i) (ns.map V.int) = decide (i ∈ ns) := by
  unfold inV
  rw [List.any_map, Bool.eq_iff_iff, List.any_eq_true, decide_eq_true_iff]
  constructor
  · rintro ⟨y, hy, e⟩
    have z : y = i := by
      have := e
      simp [eqV] at this
      omega
    rw [← z]
    exact hy
  · intro h
    exact ⟨i, h, by simp [eqV]⟩
theorem r_inI (hp : SqL K H p (ns.map V.int)) (q : Q (.bl (decide (i ∈ ns))) H) : rInU K (.int i) (.ref p) H Q :=
  .inr ⟨p, _, rfl, .inl hp, rfl, flat_ints, by
    show Q (.bl (inV (.int i) (ns.map V.int))) H
    rw [inV_ints]
    exact q⟩
theorem dps_ints : DpAll K H (ns.map V.int) (ns.map PyData.int) := by
  induction ns with
  | nil => exact .nil
  | cons x r ih => exact .cons (.int _) ih
theorem ints_shaped : SeqAt.shaped (.list (ns.map PyData.int)) = true := by
  have key : PyData.canLayAll0 (ns.map PyData.int) = true ∧ PyData.depthAll (ns.map PyData.int) ≤ 2 := by
    induction ns with
    | nil => exact ⟨rfl, by decide⟩
    | cons x r ih =>
      refine ⟨?_, ?_⟩
      · show ((PyData.int x).canLay0 && PyData.canLayAll0 (r.map PyData.int)) = true
        rw [ih.1]
        rfl
      · show max (PyData.int x).depth (PyData.depthAll (r.map PyData.int)) ≤ 2
        have e : (PyData.int x).depth ≤ 2 := by simp [PyData.depth]
        omega
  show (PyData.canLayAll0 (ns.map PyData.int) && decide (_ ≤ 64)) = true
  rw [key.1]
  have e : (PyData.list (ns.map PyData.int)).depth = PyData.depthAll (ns.map PyData.int) + 1 := by first | rfl | exact Nat.add_comm _ _
  show decide (_ ≤ 64) = true
  rw [decide_eq_true_iff, e]
  omega
/-- l.index(i), l a list of ints -/
theorem r_indexI {j : Nat} (hp : SqL K H p (ns.map V.int)) (hj : ns[j]? = some i) (hno : ∀ m, m < j → ns[m]? ≠ some i) (q : Q (.int (j : Nat)) H) : rIndexD K (.ref p) [.int i] H Q := by
  refine ⟨p, .int i, .int i, ns.map PyData.int, j, .int i, rfl, rfl, .lst hp dps_ints, .int i, ints_shaped, rfl, by rw [List.getElem?_map, hj]; rfl, ?_, fun m z hm hz => ?_, q⟩
  · show ((i : Int) == i) = true
    exact beq_self_eq_true i
  · rw [List.getElem?_map] at hz
    obtain ⟨y, hy, rfl⟩ := Option.map_eq_some_iff.mp hz
    show ((y : Int) == i) = false
    rw [beq_eq_false_iff_ne]
    intro e
    exact hno m hm (by rw [hy, e])
end
end Dk

/-! min(a, b), max(a, b) of two tuples of numbers; sorted of two -/
namespace Dk
open PySem PySem.Spec PyProof.Rows L2 PySem.SeqAt PySem.W
section
variable {prog : Program} {w : World} {A : Around} {E : Value → Shared → Prop} {s : Shared}
theorem call_min_twoH {a b : Value} {Q : Value → Shared → Prop}
    (h : wpAny (model prog w) A.in1 (pyIter (.ref s.heap.objs.size)) (fun it s₂ => ∃ I fp wr G n P St H bt, it = .ref I ∧ WalksS prog w A.in1 I fp wr G n P St ∧ St 0 s₂ ∧ (∀ b ∈ fp, b < s₂.heap.objs.size) ∧ 0 < n ∧
      (∀ b o, H.get? b = some o → b ∉ wr) ∧ (∀ b o, H.get? b = some o → s₂.heap.get? b = some o) ∧ CmpIn prog w A.in1 .Lt H P bt ∧ ∀ v s', P (argBest bt (n - 1)) v → Moved wr G s₂ s' → Q v s') E
      { s with heap := s.heap.push { cls := .type "tuple", data := .seq #[a, b] } }) :
    wpAny (model prog w) A (call (.builtin "min") [a, b]) Q E s := by
  have hname : (toString "min" ++ toString ".loop" : String) = "min.loop" := by decide
  refine call_function_tree F.kind_min F.plain_min F.entry_min (F.args_min2 _ _) ?_
  show wpAny _ A.in1 (Builtin.Builtins.bindParams "min" ["key", "default"] 0 ⟨[], []⟩ >>= _) _ _ s
  refine wpAny_bind (wpAny_of_eq (show Builtin.Builtins.bindParams "min" ["key", "default"] 0 ⟨[], []⟩ = pure [none, none] from rfl) ?_)
  show wpAny _ A.in1 (newTuple [a, b] >>= _) _ _ s
  refine wpAny_bind (wpAny_newObj_type ?_)
  refine wpAny_bind (wpAny_mono h (fun it s₂ h₂ => ?_) fun _ _ e => e)
  obtain ⟨I, fp, wr, G, n, P, St, H, bt, rfl, W, hst, hfp, hn, hw, hkeep, hcmp, hQ⟩ := h₂
  refine wpAny_bind (wpAny_newObj_type ?_)
  have hSf : s₂.heap.objs.size ∉ fp := fun hm => Nat.lt_irrefl _ (hfp _ hm)
  rw [hname]
  refine wpAny_pure ⟨plainId_quiet F.plain_min_loop _, codeAny_min_loop_firstH W H hw bt hcmp s₂.heap.objs.size hSf (fresh_in hkeep) _ hn (fun b o e => Heap.get?_push_of_some _ (hkeep b o e)) (W.frame 0 s₂ _ s₂.toks hst (Nat.le_refl _) fun b _ o e => Heap.get?_push_of_some _ e) (Heap.get?_push_size _ rfl) fun v s' hP hm => ?_⟩
  exact hQ v s' hP (Moved.drop_new (tk := s₂.toks) hm (Nat.le_refl _))
theorem call_max_twoH {a b : Value} {Q : Value → Shared → Prop}
    (h : wpAny (model prog w) A.in1 (pyIter (.ref s.heap.objs.size)) (fun it s₂ => ∃ I fp wr G n P St H bt, it = .ref I ∧ WalksS prog w A.in1 I fp wr G n P St ∧ St 0 s₂ ∧ (∀ b ∈ fp, b < s₂.heap.objs.size) ∧ 0 < n ∧
      (∀ b o, H.get? b = some o → b ∉ wr) ∧ (∀ b o, H.get? b = some o → s₂.heap.get? b = some o) ∧ CmpIn prog w A.in1 .Gt H P bt ∧ ∀ v s', P (argBest bt (n - 1)) v → Moved wr G s₂ s' → Q v s') E
      { s with heap := s.heap.push { cls := .type "tuple", data := .seq #[a, b] } }) :
    wpAny (model prog w) A (call (.builtin "max") [a, b]) Q E s := by
  have hname : (toString "max" ++ toString ".loop" : String) = "max.loop" := by decide
  refine call_function_tree F.kind_max F.plain_max F.entry_max (F.args_max2 _ _) ?_
  show wpAny _ A.in1 (Builtin.Builtins.bindParams "max" ["key", "default"] 0 ⟨[], []⟩ >>= _) _ _ s
  refine wpAny_bind (wpAny_of_eq (show Builtin.Builtins.bindParams "max" ["key", "default"] 0 ⟨[], []⟩ = pure [none, none] from rfl) ?_)
  show wpAny _ A.in1 (newTuple [a, b] >>= _) _ _ s
  refine wpAny_bind (wpAny_newObj_type ?_)
  refine wpAny_bind (wpAny_mono h (fun it s₂ h₂ => ?_) fun _ _ e => e)
  obtain ⟨I, fp, wr, G, n, P, St, H, bt, rfl, W, hst, hfp, hn, hw, hkeep, hcmp, hQ⟩ := h₂
  refine wpAny_bind (wpAny_newObj_type ?_)
  have hSf : s₂.heap.objs.size ∉ fp := fun hm => Nat.lt_irrefl _ (hfp _ hm)
  rw [hname]
  refine wpAny_pure ⟨plainId_quiet F.plain_max_loop _, codeAny_max_loop_firstH W H hw bt hcmp s₂.heap.objs.size hSf (fresh_in hkeep) _ hn (fun b o e => Heap.get?_push_of_some _ (hkeep b o e)) (W.frame 0 s₂ _ s₂.toks hst (Nat.le_refl _) fun b _ o e => Heap.get?_push_of_some _ e) (Heap.get?_push_size _ rfl) fun v s' hP hm => ?_⟩
  exact hQ v s' hP (Moved.drop_new (tk := s₂.toks) hm (Nat.le_refl _))
theorem min_two_data {a b : Value} {x y : PyData} {as bs : List Addr} {Q : Value → Shared → Prop} (hh : A.handled = none) (ra : Reads s.heap a x as) (rb : Reads s.heap b y bs) (ha : PySem.W.AlikeAll [x, y]) (hu : A.units + 1 + PyData.depthAll [x, y] < cLine)
    (h : ∀ h' tk, (∀ c o, s.heap.get? c = some o → h'.get? c = some o) → Q (if dataLt y x = true then b else a) { s with heap := h', toks := tk }) :
    wpAny (model prog w) A (call (.builtin "min") [a, b]) Q E s := by
  have k0 : ∀ c o, s.heap.get? c = some o → (s.heap.push { cls := .type "tuple", data := .seq #[a, b] }).get? c = some o := fun c o e => Heap.get?_push_of_some _ e
  have hl : ({ s with heap := s.heap.push { cls := .type "tuple", data := .seq #[a, b] } } : Shared).heap.IsTuple s.heap.objs.size #[a, b] := ⟨_, Heap.get?_push_size _ rfl, rfl, 0, rfl⟩
  have hr : ReadsAll (s.heap.push { cls := .type "tuple", data := .seq #[a, b] }) (#[a, b] : Array Value).toList [x, y] _ := ReadsAll.cons (Reads.keeps k0 ra) (ReadsAll.cons (Reads.keeps k0 rb) ReadsAll.nil)
  refine call_min_twoH (iter_tupleW (s := { s with heap := s.heap.push { cls := .type "tuple", data := .seq #[a, b] } }) (A := A.in1) hh hl fun s₂ e W st hfp hw hk => ?_)
  refine ⟨_, _, _, _, _, _, _, (s.heap.push { cls := .type "tuple", data := .seq #[a, b] }), _, rfl, W, st, hfp, by simp, hw, hk, PySem.W.cmpIn_lt (s := { s with heap := s.heap.push { cls := .type "tuple", data := .seq #[a, b] } }) (A := A.in1) hr ha (by show A.units + 1 + _ < _; exact hu), fun v s' hP m => ?_⟩
  obtain ⟨h', tk, rfl, hk'⟩ := moved_old e rfl m
  have hv : v = if dataLt y x = true then b else a := by
    have hP' : (#[a, b] : Array Value)[if dataLt y x = true then 1 else 0]? = some v := hP
    by_cases c : dataLt y x = true
    · rw [if_pos c] at hP' ⊢
      exact (Option.some.inj hP').symm
    · rw [if_neg c] at hP' ⊢
      exact (Option.some.inj hP').symm
  rw [hv]
  exact h h' tk fun c o e => hk' c o (k0 c o e)
theorem max_two_data {a b : Value} {x y : PyData} {as bs : List Addr} {Q : Value → Shared → Prop} (hh : A.handled = none) (ra : Reads s.heap a x as) (rb : Reads s.heap b y bs) (ha : PySem.W.AlikeAll [x, y]) (hu : A.units + 1 + PyData.depthAll [x, y] < cLine)
    (h : ∀ h' tk, (∀ c o, s.heap.get? c = some o → h'.get? c = some o) → Q (if dataLt x y = true then b else a) { s with heap := h', toks := tk }) :
    wpAny (model prog w) A (call (.builtin "max") [a, b]) Q E s := by
  have k0 : ∀ c o, s.heap.get? c = some o → (s.heap.push { cls := .type "tuple", data := .seq #[a, b] }).get? c = some o := fun c o e => Heap.get?_push_of_some _ e
  have hl : ({ s with heap := s.heap.push { cls := .type "tuple", data := .seq #[a, b] } } : Shared).heap.IsTuple s.heap.objs.size #[a, b] := ⟨_, Heap.get?_push_size _ rfl, rfl, 0, rfl⟩
  have hr : ReadsAll (s.heap.push { cls := .type "tuple", data := .seq #[a, b] }) (#[a, b] : Array Value).toList [x, y] _ := ReadsAll.cons (Reads.keeps k0 ra) (ReadsAll.cons (Reads.keeps k0 rb) ReadsAll.nil)
  refine call_max_twoH (iter_tupleW (s := { s with heap := s.heap.push { cls := .type "tuple", data := .seq #[a, b] } }) (A := A.in1) hh hl fun s₂ e W st hfp hw hk => ?_)
  refine ⟨_, _, _, _, _, _, _, (s.heap.push { cls := .type "tuple", data := .seq #[a, b] }), _, rfl, W, st, hfp, by simp, hw, hk, PySem.W.cmpIn_gt (s := { s with heap := s.heap.push { cls := .type "tuple", data := .seq #[a, b] } }) (A := A.in1) hr ha (by show A.units + 1 + _ < _; exact hu), fun v s' hP m => ?_⟩
  obtain ⟨h', tk, rfl, hk'⟩ := moved_old e rfl m
  have hv : v = if dataLt x y = true then b else a := by
    have hP' : (#[a, b] : Array Value)[if dataLt x y = true then 1 else 0]? = some v := hP
    by_cases c : dataLt x y = true
    · rw [if_pos c] at hP' ⊢
      exact (Option.some.inj hP').symm
    · rw [if_neg c] at hP' ⊢
      exact (Option.some.inj hP').symm
  rw [hv]
  exact h h' tk fun c o e => hk' c o (k0 c o e)
end
def rMinD (K : PySem.W.Frag) : List V → Hp → VK → Prop := fun xs H Q => ∃ (u v : V) (d e : PyData), xs = [u, v] ∧ Dp K H u d ∧ Dp K H v e ∧ AlikeAll [d, e] ∧ PyData.depthAll [d, e] ≤ 60 ∧ Q (if dataLt e d = true then v else u) H
def rMaxD2 (K : PySem.W.Frag) : List V → Hp → VK → Prop := fun xs H Q => ∃ (u v : V) (d e : PyData), xs = [u, v] ∧ Dp K H u d ∧ Dp K H v e ∧ AlikeAll [d, e] ∧ PyData.depthAll [d, e] ≤ 60 ∧ Q (if dataLt d e = true then v else u) H
section
variable {X : Cx}
theorem call_minD (hc : X.calm = true) (hu : X.A.units + 65 < cLine) : CallR X (.builtin "min") (rMinD X.K) := by
  intro pins s σ H xs us Q I r h
  obtain ⟨u, v, d, e, rfl, hd, he, ha, hz, q⟩ := h
  obtain ⟨u', v', rfl, ru, rv⟩ := vals2 r
  obtain ⟨as, r1⟩ := Dp.reads I d u u' hd ru
  obtain ⟨bs, r2⟩ := Dp.reads I e v v' he rv
  refine min_two_data (I.ok.hd hc) r1 r2 ha (by omega) fun h' tk k => ⟨_, H, I.kept k, ?_, q⟩
  split
  · exact rv
  · exact ru
theorem call_maxD (hc : X.calm = true) (hu : X.A.units + 65 < cLine) : CallR X (.builtin "max") (rMaxD2 X.K) := by
  intro pins s σ H xs us Q I r h
  obtain ⟨u, v, d, e, rfl, hd, he, ha, hz, q⟩ := h
  obtain ⟨u', v', rfl, ru, rv⟩ := vals2 r
  obtain ⟨as, r1⟩ := Dp.reads I d u u' hd ru
  obtain ⟨bs, r2⟩ := Dp.reads I e v v' he rv
  refine max_two_data (I.ok.hd hc) r1 r2 ha (by omega) fun h' tk k => ⟨_, H, I.kept k, ?_, q⟩
  split
  · exact rv
  · exact ru
end
def kf (p : Addr) (x y : Tl.Sg) (z : V) : Int × Int := if z = V.ref p then ((x.1 : Int), (x.2 : Int)) else ((y.1 : Int), (y.2 : Int))
theorem kf_1 {p : Addr} {x y : Tl.Sg} : kf p x y (.ref p) = ((x.1 : Int), (x.2 : Int)) := if_pos rfl
theorem kf_2 {p q : Addr} {x y : Tl.Sg} (h : V.ref q ≠ V.ref p) : kf p x y (.ref q) = ((y.1 : Int), (y.2 : Int)) := if_neg h
theorem perm2 {α : Type} {l : List α} {a b : α} (h : l.Perm [a, b]) : l = [a, b] ∨ l = [b, a] := by
  have hl := h.length_eq
  match l, hl with
  | [c, d], _ =>
    have hc : c ∈ [a, b] := h.mem_iff.mp (List.mem_cons_self ..)
    rcases List.mem_cons.mp hc with rfl | hc
    · have z := (List.perm_cons c).mp h
      have e := List.perm_singleton.mp z
      rw [e]
      exact .inl rfl
    · have e1 := List.mem_singleton.mp hc
      subst e1
      have z := (List.perm_cons c).mp (h.trans (List.Perm.swap c a []))
      have e := List.perm_singleton.mp z
      rw [e]
      exact .inr rfl
theorem sg_alike (x y : Tl.Sg) : AlikeAll [sgD x, sgD y] := by
  refine ⟨fun a ha b hb => ?_, fun a ha => ?_⟩
  · rcases List.mem_cons.mp ha with rfl | ha <;> rcases List.mem_cons.mp hb with rfl | hb
    · rfl
    · rw [List.mem_singleton.mp hb]; rfl
    · rw [List.mem_singleton.mp ha]; rfl
    · rw [List.mem_singleton.mp ha, List.mem_singleton.mp hb]; rfl
  · rcases List.mem_cons.mp ha with rfl | ha
    · exact fun z => nomatch z
    · rw [List.mem_singleton.mp ha]; exact fun z => nomatch z
theorem sg_lt (x y : Tl.Sg) : dataLt (sgD x) (sgD y) = decide (x.1 < y.1 ∨ (x.1 = y.1 ∧ x.2 < y.2)) := by
  rw [show dataLt (sgD x) (sgD y) = _ from dataLt_ii _ _ _ _, Bool.eq_iff_iff, decide_eq_true_iff, decide_eq_true_iff]
  omega
theorem sg_depth (x y : Tl.Sg) : PyData.depthAll [sgD x, sgD y] ≤ 60 := by simp [sgD, PyData.depth, PyData.depthAll]
section
variable {K : PySem.W.Frag} {H : Hp} {Q : VK} {u v : V} {x y : Tl.Sg}
theorem r_par {i j : Nat} {ta : TA} {σ : L2.St} {H : Hp} {D : Ends} (h : ta σ H fun vs H1 => ∃ v w, vs = [v, w] ∧ D.nx ((σ.set i (some v)).set j (some w)) H1) : tPar i j ta D σ H := h
/-- min of two signs of one chunk -/
theorem r_minSg (h : x.1 = y.1) (su : SgV K H u x) (sv : SgV K H v y) (q : Q (if y.2 < x.2 then v else u) H) : rMinD K [u, v] H Q := by
  refine ⟨u, v, _, _, rfl, su.dp, sv.dp, sg_alike x y, sg_depth x y, ?_⟩
  have e : (if dataLt (sgD y) (sgD x) = true then v else u) = if y.2 < x.2 then v else u := by
    by_cases c : y.2 < x.2
    · rw [if_pos c, if_pos (by rw [sg_lt, decide_eq_true_iff]; exact .inr ⟨h.symm, c⟩)]
    · rw [if_neg c, if_neg (by rw [sg_lt, decide_eq_true_iff]; omega)]
  rw [e]
  exact q
theorem r_maxSg (h : x.1 = y.1) (su : SgV K H u x) (sv : SgV K H v y) (q : Q (if x.2 < y.2 then v else u) H) : rMaxD2 K [u, v] H Q := by
  refine ⟨u, v, _, _, rfl, su.dp, sv.dp, sg_alike x y, sg_depth x y, ?_⟩
  have e : (if dataLt (sgD x) (sgD y) = true then v else u) = if x.2 < y.2 then v else u := by
    by_cases c : x.2 < y.2
    · rw [if_pos c, if_pos (by rw [sg_lt, decide_eq_true_iff]; exact .inr ⟨h, c⟩)]
    · rw [if_neg c, if_neg (by rw [sg_lt, decide_eq_true_iff]; omega)]
  rw [e]
  exact q
end
end Dk

/-! zip of two things, each a list, a tuple or a text -/
namespace Zp
open PySem PySem.Spec PyProof.Rows L2 Dk
inductive Kd where
  | l (a : Addr)
  | t (a : Addr)
  | s (z : Str)
abbrev sgs (z : Str) : List V := (cs z).map fun c => V.str ⟨#[c]⟩
def Kd.v : Kd → V
  | .l a => .ref a
  | .t a => .ref a
  | .s z => .str z
def Kd.has (K : PySem.W.Frag) : Kd → Hp → List V → Prop
  | .l a, H, xs => SqL K H a xs
  | .t a, H, xs => SqT K H a xs
  | .s z, _, xs => xs = sgs z
def Kd.st (tk : Tok) : Kd → Addr → Nat → Heap → Prop
  | .l a, it, i, h => h.IsListIter it a i
  | .t a, it, i, h => h.IsTupleIter it a i
  | .s z, it, i, h => h.IsStrIter it (strIterType z) z tk i
def Kd.ap : Kd → Addr → Prop
  | .l a, q => a ≠ q
  | .t a, q => a ≠ q
  | .s _, _ => True
section
variable {tk : Tok} {k : Kd} {it : Addr} {i : Nat} {h h' : Heap}
theorem Kd.st_obj (st : k.st tk it i h) : ∃ o, h.get? it = some o ∧ ∀ v, o.data ≠ .cell v := by
  cases k with
  | l a => obtain ⟨o, e, _, d⟩ := st; exact ⟨o, e, fun v q => by rw [d] at q; cases q⟩
  | t a => obtain ⟨o, e, _, d⟩ := st; exact ⟨o, e, fun v q => by rw [d] at q; cases q⟩
  | s z => obtain ⟨o, e, _, d⟩ := st; exact ⟨o, e, fun v q => by rw [d] at q; cases q⟩
theorem Kd.st_keep (st : k.st tk it i h) (q : ∀ o, h.get? it = some o → h'.get? it = some o) : k.st tk it i h' := by
  cases k with
  | l a => exact Heap.IsListIter.at st q
  | t a => exact Heap.IsTupleIter.at st q
  | s z => obtain ⟨o, ho, r⟩ := st; exact ⟨o, q o ho, r⟩
end
theorem vals_at {xs : List V} {its : List Value} (rv : Vals xs its) {j : Nat} {v : Value} (h : its[j]? = some v) : ∃ x, xs[j]? = some x ∧ RelV x v := by
  have hl := rv.length
  have hj := (List.getElem?_eq_some_iff.mp h).1
  obtain ⟨x, hx⟩ : ∃ x, xs[j]? = some x := ⟨_, List.getElem?_eq_getElem (by omega)⟩
  obtain ⟨u, hu, ru⟩ := rv.get hx
  rw [h] at hu
  cases hu
  exact ⟨x, hx, ru⟩
section
variable {X : Cx} {pins : List (Addr × Obj)} {σ : L2.St} {H : Hp} {s : Shared}
theorem Kd.draws (I : Inv X pins σ H s) (hh : X.A.in1.handled = none) {k : Kd} {xs : List V} (hq : k.has X.K H xs) {it : Addr} (hne : k.ap it) {tk : Tok} {i : Nat} (st : k.st tk it i s.heap) :
    ∃ (fp : List Addr) (P : Nat → Value → Prop) (St : Nat → Heap → Prop), Draws X.prog X.w X.A.in1 it fp xs.length P St ∧ St i s.heap ∧ (∀ j v, P j v → ∃ x, xs[j]? = some x ∧ RelV x v) ∧ (∀ j h, St j h → k.st tk it j h) ∧ it ∈ fp ∧ ∀ q ∈ fp, q = it ∨ ¬ k.ap q := by
  cases k with
  | l a =>
    obtain ⟨its, rv, p, _⟩ := I.list hq
    have e : its.toArray.size = xs.length := by rw [List.size_toArray]; exact rv.length.symm
    have D := Draws.list (prog := X.prog) (w := X.w) hh it a hne its.toArray
    rw [e] at D
    refine ⟨_, _, _, D, ⟨st, p.isList⟩, fun j v hv => vals_at rv (by simpa using hv), fun j h z => z.1, by simp, fun q hq => ?_⟩
    rcases List.mem_cons.mp hq with z | z
    · exact .inl z
    · exact .inr fun c => c (List.mem_singleton.mp z).symm
  | t a =>
    obtain ⟨its, rv, p, _⟩ := I.tuple hq
    have e : its.toArray.size = xs.length := by rw [List.size_toArray]; exact rv.length.symm
    have D := Draws.tuple (prog := X.prog) (w := X.w) hh it a hne its.toArray
    rw [e] at D
    refine ⟨_, _, _, D, ⟨st, p⟩, fun j v hv => vals_at rv (by simpa using hv), fun j h z => z.1, by simp, fun q hq => ?_⟩
    rcases List.mem_cons.mp hq with z | z
    · exact .inl z
    · exact .inr fun c => c (List.mem_singleton.mp z).symm
  | s z =>
    obtain rfl : xs = sgs z := hq
    have e : z.cps.size = (sgs z).length := by simp [sgs, cs]
    have D := Draws.text (prog := X.prog) (w := X.w) hh it z tk
    rw [e] at D
    refine ⟨_, _, _, D, st, fun j v hv => ?_, fun j h q => q, by simp, fun q hq => .inl (List.mem_singleton.mp hq)⟩
    obtain ⟨c, u, hc, rfl⟩ := hv
    refine ⟨.str ⟨#[c]⟩, ?_, u, rfl⟩
    show ((cs z).map _)[j]? = _
    rw [List.getElem?_map, show (cs z)[j]? = some c by rw [Array.getElem?_toList]; exact hc]
    rfl
theorem Kd.inj (I : Inv X pins σ H s) {k : Kd} {xs ys : List V} (h1 : k.has X.K H xs) (h2 : k.has X.K H ys) : xs = ys := by
  cases k with
  | l a => exact I.list_inj h1 h2
  | t a => exact I.tuple_inj h1 h2
  | s z => exact Eq.trans h1 (Eq.symm h2)
end
structure Ap (z TI TO i1 i2 : Addr) (k1 k2 : Kd) : Prop where
  TIz : TI ≠ z
  TOz : TO ≠ z
  i1z : i1 ≠ z
  i2z : i2 ≠ z
  TITO : TI ≠ TO
  TIi1 : TI ≠ i1
  TIi2 : TI ≠ i2
  TOi1 : TO ≠ i1
  TOi2 : TO ≠ i2
  i12 : i1 ≠ i2
  a1 : k1.ap z ∧ k1.ap TO ∧ k1.ap i1 ∧ k1.ap i2
  a2 : k2.ap z ∧ k2.ap TO ∧ k2.ap i1 ∧ k2.ap i2
theorem Ap.sep {z TI TO i1 i2 : Addr} {k1 k2 : Kd} (D : Ap z TI TO i1 i2 k1 k2) {fp1 fp2 : List Addr} (m1 : i1 ∈ fp1) (f1 : ∀ q ∈ fp1, q = i1 ∨ ¬ k1.ap q) (m2 : i2 ∈ fp2) (f2 : ∀ q ∈ fp2, q = i2 ∨ ¬ k2.ap q) : ZipSep2 z TI TO i1 i2 fp1 fp2 where
  TIz := D.TIz
  TOz := D.TOz
  TITO := D.TITO
  TIi1 := D.TIi1
  mem1 := m1
  zf1 := fun h => (f1 z h).elim (fun e => D.i1z e.symm) fun n => n D.a1.1
  Tf1 := fun h => (f1 TO h).elim D.TOi1 fun n => n D.a1.2.1
  TIi2 := D.TIi2
  mem2 := m2
  zf2 := fun h => (f2 z h).elim (fun e => D.i2z e.symm) fun n => n D.a2.1
  Tf2 := fun h => (f2 TO h).elim D.TOi2 fun n => n D.a2.2.1
  sep1_2 := fun h => (f2 i1 h).elim D.i12 fun n => n D.a2.2.2.1
  sep2_1 := fun h => (f1 i2 h).elim (fun e => D.i12 e.symm) fun n => n D.a1.2.2.2
def ItzK (K : PySem.W.Frag) (k1 k2 : Kd) : It :=
  ⟨fun i H => ∃ xs ys : List V, k1.has K H xs ∧ k2.has K H ys ∧ i < xs.length ∧ i < ys.length,
    fun i H v H' => ∃ T x y, v = .ref T ∧ H T = none ∧ H' = upd H T (.tup [x, y]) ∧ (∀ xs, k1.has K H xs → xs[i]? = some x) ∧ ∀ ys, k2.has K H ys → ys[i]? = some y,
    fun i H => ∃ xs ys : List V, k1.has K H xs ∧ k2.has K H ys ∧ i ≤ xs.length ∧ i ≤ ys.length ∧ (i = xs.length ∨ i = ys.length)⟩
theorem turn_zipK {P : Program} {w : World} {K : PySem.W.Frag} {elts : List Expr} {kk : Nat} {tpos : Pos} {k1 k2 : Kd} {tk1 tk2 : Tok} {z TI TO i1 i2 : Addr} (D : Ap z TI TO i1 i2 k1 k2) :
    Turn P w K (.Tuple elts kk tpos) (ItzK K k1 k2) [z, TI, TO, i1, i2] z (fun i h => IsZip h z TI TO .none ∧ IsTupOf2 h TI (.ref i1) (.ref i2) ∧ (∃ x y, IsTupOf2 h TO x y) ∧ k1.st tk1 i1 i h ∧ k2.st tk2 i2 i h) where
  mem := by simp
  obj := fun i h st c hc => by
    obtain ⟨hz, hTI, ⟨x, y, hTO⟩, s1, s2⟩ := st
    have e' : c = z ∨ c = TI ∨ c = TO ∨ c = i1 ∨ c = i2 := by simpa using hc
    rcases e' with q | q | q | q | q
    · rw [q]; exact ⟨_, hz, fun v q => nomatch q⟩
    · rw [q]; exact ⟨_, hTI, fun v q => nomatch q⟩
    · rw [q]; exact ⟨_, hTO, fun v q => nomatch q⟩
    · rw [q]; exact Kd.st_obj s1
    · rw [q]; exact Kd.st_obj s2
  keep := fun i h h' st k => by
    obtain ⟨hz, hTI, ⟨x, y, hTO⟩, h1, h2⟩ := st
    exact ⟨k z (by simp) _ hz, k TI (by simp) _ hTI, ⟨x, y, k TO (by simp) _ hTO⟩, Kd.st_keep h1 fun o q => k i1 (by simp) o q, Kd.st_keep h2 fun o q => k i2 (by simp) o q⟩
  item := by
    intro X hP hw hK hc i pins s σ H E I hf st hg
    subst hP hw hK
    obtain ⟨hz, hTI, ⟨x0, y0, hTO⟩, h1, h2⟩ := st
    obtain ⟨xs, ys, hqx, hqy, hx, hy⟩ := hg
    have hh : X.A.in1.handled = none := I.ok.hd hc
    obtain ⟨fp1, P1, St1, D1, st1, g1, b1, m1, f1⟩ := Kd.draws I hh hqx D.a1.2.2.1 h1
    obtain ⟨fp2, P2, St2, D2, st2, g2, b2, m2, f2⟩ := Kd.draws I hh hqy D.a2.2.2.2 h2
    have S := D.sep m1 f1 m2 f2
    have hzl : z < s.heap.objs.size := Heap.lt_size hz
    refine wpAny_pyNext_zipD2_item S D1 D2 hz hTI hTO st1 st2 hx hy fun u u2 h' tk p1 p2 z' TO' s1' s2' hT hsz hk => ?_
    obtain ⟨x, hxx, ru⟩ := g1 _ _ p1
    obtain ⟨y, hyy, ru2⟩ := g2 _ _ p2
    refine ⟨_, rfl, wpAny_letOwnedTupleGo_zip (s := { s with heap := h', toks := tk }) z' fun h'' z'' sb => ?_⟩
    have hT2 : h''.get? s.heap.objs.size = some { cls := .type "tuple", data := .seq #[u, u2] } := (sb.2 _ (Nat.ne_of_gt hzl)).trans hT
    have new : ObjOk X.prog X.w (upd H s.heap.objs.size (.tup [x, y])) h'' s.heap.objs.size (.tup [x, y]) :=
      ⟨by show 2 ≤ sizeLine; decide, [u, u2], .cons ru (.cons ru2 .nil), ⟨_, hT2, rfl, _, rfl⟩⟩
    have I1 : Inv X pins σ (upd H s.heap.objs.size (.tup [x, y])) { s with heap := h'', toks := tk } :=
      I.turnedNew (t' := tk) (ch := [z, TI, TO, i1, i2]) (fun c o hb q => (sb.2 c (fun q' => hb (by simp [q']))).trans (hk c o (fun q' => hb (by simp [q'])) (fun q' => hb (by simp [q'])) (fun q' => hb (by simp [q'])) (fun q' => hb (by simp [q'])) q)) hf (Nat.le_refl _) new
    refine ⟨.ref s.heap.objs.size, _, I1, rfl, ⟨_, x, y, rfl, I.hok.fresh (Nat.le_refl _), rfl, fun l hl => by rw [Kd.inj I hl hqx]; exact hxx, fun l hl => by rw [Kd.inj I hl hqy]; exact hyy⟩, ⟨z'', ?_, ⟨u, u2, ?_⟩, ?_, ?_⟩, fun c hcm => ?_⟩
    · exact (sb.2 _ D.TIz).trans (hk _ _ D.TIz D.TITO D.TIi1 D.TIi2 hTI)
    · exact (sb.2 _ D.TOz).trans TO'
    · exact Kd.st_keep (b1 _ _ s1') fun o q => (sb.2 _ D.i1z).trans q
    · exact Kd.st_keep (b2 _ _ s2') fun o q => (sb.2 _ D.i2z).trans q
    · have hlt : c < s.heap.objs.size := by
        have e' : c = z ∨ c = TI ∨ c = TO ∨ c = i1 ∨ c = i2 := by simpa using hcm
        rcases e' with q | q | q | q | q
        · rw [q]; exact hzl
        · rw [q]; exact Heap.lt_size hTI
        · rw [q]; exact Heap.lt_size hTO
        · rw [q]; obtain ⟨_, e1, _⟩ := Kd.st_obj h1; exact Heap.lt_size e1
        · rw [q]; obtain ⟨_, e2, _⟩ := Kd.st_obj h2; exact Heap.lt_size e2
      rw [upd_ne (Nat.ne_of_lt hlt)]
      exact (hf c hcm).1
  done := by
    intro X hP hw hK hc i pins s σ H E I hf st hg
    subst hP hw hK
    obtain ⟨hz, hTI, ⟨x0, y0, hTO⟩, h1, h2⟩ := st
    obtain ⟨xs, ys, hqx, hqy, l1, l2, hend⟩ := hg
    have hh : X.A.in1.handled = none := I.ok.hd hc
    obtain ⟨fp1, P1, St1, D1, st1, g1, b1, m1, f1⟩ := Kd.draws I hh hqx D.a1.2.2.1 h1
    obtain ⟨fp2, P2, St2, D2, st2, g2, b2, m2, f2⟩ := Kd.draws I hh hqy D.a2.2.2.2 h2
    have S := D.sep m1 f1 m2 f2
    exact wpAny_pyNext_zipD2_end S D1 D2 hz hTI hTO st1 st2 l1 l2 hend fun h' tk hk => ⟨rfl, I.turnedL (t' := tk) (ch := [z, TI, TO, i1, i2]) (fun c o hb q =>
      hk c o (fun q' => hb (by simp [q'])) (fun q' => hb (by simp [q'])) (fun q' => hb (by simp [q'])) (fun q' => hb (by simp [q'])) q) hf⟩
  self := fun A i s Q E st h => wpAny_pyIter_zip st.1 h
/-- how it begins -/
theorem Kd.begins {X : Cx} {pins : List (Addr × Obj)} {σ : L2.St} {H : Hp} {s : Shared} (I : Inv X pins σ H s) {k : Kd} {xs : List V} (hq : k.has X.K H xs) {u : Value} (r : RelV k.v u) :
    ∃ (o : Obj) (HH : Heap → Prop) (tk : Tok), Begins u o HH ∧ HH s.heap ∧ (∀ it h', h'.get? it = some o → k.st tk it 0 h') ∧ ∀ q, s.heap.objs.size ≤ q → k.ap q := by
  cases k with
  | l a =>
    obtain rfl : u = Value.ref a := r
    obtain ⟨its, rv, p, _⟩ := I.list hq
    exact ⟨_, _, 0, begins_list a its.toArray, p.isList, fun it h' e => ⟨_, e, rfl, rfl⟩, fun q hq e => by rw [← e] at hq; exact absurd p.lt (Nat.not_lt.mpr hq)⟩
  | t a =>
    obtain rfl : u = Value.ref a := r
    obtain ⟨its, rv, p, _⟩ := I.tuple hq
    obtain ⟨o1, ho1, _⟩ := id p
    exact ⟨_, _, 0, begins_tuple a its.toArray, p, fun it h' e => ⟨_, e, rfl, rfl⟩, fun q hq e => by rw [← e] at hq; exact absurd (Heap.lt_size ho1) (Nat.not_lt.mpr hq)⟩
  | s z =>
    obtain ⟨t, rfl⟩ := r
    exact ⟨_, _, t, begins_text z t, trivial, fun it h' e => ⟨_, e, rfl, rfl⟩, fun _ _ => trivial⟩
theorem ne_nat {a b : Nat} (h : a ≠ b) : @Ne Addr a b := h
def iZipK (K : PySem.W.Frag) (ta : TA) : TI := fun σ H R => ta σ H fun vs H1 => ∃ k1 k2 : Kd, vs = [k1.v, k2.v] ∧ (∃ xs, k1.has K H1 xs) ∧ (∃ ys, k2.has K H1 ys) ∧ R (ItzK K k1 k2) H1
theorem pi_zipK {X : Cx} {e e2 : Expr} {ta : TA} {p pos tpos : Pos} {elts : List Expr} {kk : Nat} (hg : Gl X "zip") (hm : X.mg "zip" = none) (ha : PA X [e, e2] ta)
    (hs : starEach [e, e2] X.env = (false, eval e X.env) :: starEach [e2] X.env := by rfl) (hpl : (backTo pos (starEach [e2] X.env)).any (·.1) = false := by rfl) :
    PI X (.Tuple elts kk tpos) (.Call (.Name "zip" p) [e, e2] [] pos) (iZipK X.K ta) := by
  refine ⟨fun pins s σ H R I h => ?_⟩
  refine Call_ (ld_blt I hg hm PyProof.Rows.boot_zip (PyProof.Rows.callWith_type1 (thn (ha.run pos pins s σ H _ I h) fun us s1 ⟨vs, H1, I1, r1, q1⟩ => ?_) hs hpl))
  obtain ⟨k1, k2, ex, ⟨xs, hx⟩, ⟨ys, hy⟩, q⟩ := q1
  subst ex
  cases r1 with
  | cons r rr =>
    cases rr with
    | cons r' rr =>
      cases rr
      obtain ⟨o1, HH1, tk1, B1, g1, st1, ap1⟩ := Kd.begins I1 hx r
      obtain ⟨o2, HH2, tk2, B2, g2, st2, ap2⟩ := Kd.begins I1 hy r'
      refine zip_begins2 B1 B2 g1 g2 fun h' hz hTI hTO h1 h2 hsz hk => wpAny_pyIter_zip hz ?_
      have I2 : Inv X pins σ H1 { s1 with heap := h' } := I1.kept (t' := s1.toks) hk
      have fresh5 : ∀ c, c ∈ [s1.heap.objs.size + 4, s1.heap.objs.size + 2, s1.heap.objs.size + 3, s1.heap.objs.size, s1.heap.objs.size + 1] → FpOk X pins H1 c := fun c hcm => by
        have hle : s1.heap.objs.size ≤ c := by
          have e' : c = s1.heap.objs.size + 4 ∨ c = s1.heap.objs.size + 2 ∨ c = s1.heap.objs.size + 3 ∨ c = s1.heap.objs.size ∨ c = s1.heap.objs.size + 1 := by simpa using hcm
          omega
        exact I1.fpOk hle (I1.hok.fresh hle)
      have ap : Ap (s1.heap.objs.size + 4) (s1.heap.objs.size + 2) (s1.heap.objs.size + 3) s1.heap.objs.size (s1.heap.objs.size + 1) k1 k2 :=
        ⟨ne_nat (by omega), ne_nat (by omega), ne_nat (by omega), ne_nat (by omega), ne_nat (by omega), ne_nat (by omega), ne_nat (by omega), ne_nat (by omega), ne_nat (by omega), ne_nat (by omega), ⟨ap1 _ (by omega), ap1 _ (by omega), ap1 _ (by omega), ap1 _ (by omega)⟩, ⟨ap2 _ (by omega), ap2 _ (by omega), ap2 _ (by omega), ap2 _ (by omega)⟩⟩
      exact ⟨s1.heap.objs.size + 4, [s1.heap.objs.size + 4, s1.heap.objs.size + 2, s1.heap.objs.size + 3, s1.heap.objs.size, s1.heap.objs.size + 1], _, _, H1, rfl, I2, turn_zipK (tk1 := tk1) (tk2 := tk2) ap, ⟨hz, hTI, ⟨_, _, hTO⟩, st1 _ _ h1, st2 _ _ h2⟩, fresh5, q⟩
/-! as walks -/
theorem walk_zipK {K : PySem.W.Frag} {k1 k2 : Kd} {xs ys : List V} {n : Nat} (hn : n = min xs.length ys.length) :
    Walk (ItzK K k1 k2) n (fun H => k1.has K H xs ∧ k2.has K H ys) (fun i H v H' => ∃ T x y, v = .ref T ∧ H T = none ∧ H' = upd H T (.tup [x, y]) ∧ xs[i]? = some x ∧ ys[i]? = some y) :=
  ⟨fun i H hi g => ⟨xs, ys, g.1, g.2, by omega, by omega⟩, fun H g => ⟨xs, ys, g.1, g.2, by omega, by omega, by omega⟩, fun i H v H' hi g y => by
    obtain ⟨T, x, y, h1, h2, h3, h4, h5⟩ := y
    exact ⟨T, x, y, h1, h2, h3, h4 xs g.1, h5 ys g.2⟩⟩
end Zp

/-! rules of our own: text[::-1], min of a list of tuples of numbers -/
namespace Dk
open PySem PySem.Spec PyProof.Rows L2 PySem.SeqAt PySem.W
/-! text[::-1] -/
def revS (z : Str) : Str := ⟨(cs z).reverse.toArray⟩
theorem cs_rev (z : Str) : cs (revS z) = (cs z).reverse := List.toList_toArray
theorem rev_len (z : Str) : (revS z).length = z.length := by rw [← cs_len, cs_rev, List.length_reverse, cs_len]
theorem rev_made (z : Str) (t u : Tok) : sliceMade z t none none (some (-1, u)) = Made.str (revS z) := by
  have e : slicePicked z none none (some (-1, u)) = (List.range z.length).reverse := by
    show sliceRange ((z.length : Int) - 1) (-1) (-1) = _
    rw [krv_sliceRange, krv_range]
  unfold sliceMade
  rw [e]
  have e2 : ((Option.map (fun x => x.1) (some ((-1 : Int), u))).getD 1 == 1 && ((List.range z.length).reverse.length == z.length)) = false := by
    have : ((-1 : Int) == 1) = false := by decide
    show (((-1 : Int) == 1) && _) = false
    rw [this, Bool.false_and]
  rw [if_neg (by rw [e2]; exact Bool.false_ne_true)]
  congr 1
  unfold revS
  congr 1
  have e3 : ((List.range z.length).reverse.filterMap (z.cps[·]?)) = (cs z).reverse := by
    rw [List.filterMap_reverse]
    congr 1
    exact krv_all z.cps
  rw [e3]
def tRevS (te : TE) : TE := fun σ H Q => te σ H fun x H1 => ∃ z, x = .str z ∧ z.length ≤ sizeLine ∧ Q (.str (revS z)) H1
theorem pe_revS {X : Cx} {e st : Expr} {te ts : TE} {pos p2 : Pos} (he : PE X e te) (hst : PE X st ts) (hv : ∀ σ H (Q : VK), Q (.int (-1)) H → ts σ H Q) : PE X (.Subscript e (.Slice none none (some st) p2) pos) (tRevS te) := by
  refine ⟨fun pins s σ H Q I h => ?_⟩
  refine Subscript_ (thn (he.run pins s σ H _ I h) fun v s1 ⟨x, H1, I1, r1, q1⟩ => ?_)
  obtain ⟨z, rfl, hz, q⟩ := q1
  obtain ⟨t, rfl⟩ := r1
  refine wpAny_Slice ?_
  rw [evalPart_none]
  refine wpAny_pure ?_
  refine wpAny_pure ?_
  rw [evalPart_some]
  refine thn (hst.run pins s1 σ H1 _ I1 (hv σ H1 (fun y H2 => y = .int (-1) ∧ H2 = H1) ⟨rfl, rfl⟩)) fun u s2 ⟨y, H2, I2, ry, qy, eH⟩ => ?_
  subst qy eH
  obtain ⟨tk, rfl⟩ := ry
  have I3 : Inv X pins σ H2 { s2 with heap := s2.heap.push { cls := .type "slice", data := .fields #[.none, .none, .int (-1) tk] } } := I2.kept (t' := s2.toks) fun b ob q => Heap.get?_push_of_some _ q
  show wpAny (model X.prog X.w) X.A (subscriptTail e (.Slice none none (some st) p2) (.str z t) (.ref s2.heap.objs.size)) (EP X pins σ Q) X.xe { s2 with heap := s2.heap.push { cls := .type "slice", data := .fields #[.none, .none, .int (-1) tk] } }
  refine tail_any (ops := [.ref s2.heap.objs.size, .str z t]) (typeIs_str _ z t) F.slot_str_getitem.lookup ?_ (by with_unfolding_all rfl)
  refine wpAny_getItem_str_slice (l := none) (u := none) (st := some (-1, tk)) ⟨_, Heap.get?_push_size _ rfl, rfl, rfl⟩ rfl ?_
  rw [rev_made]
  exact ⟨by rw [rev_len]; exact hz, .str _, H2, I3.tok _, ⟨_, rfl⟩, q⟩
theorem r_revS {te : TE} {σ : L2.St} {H : Hp} {Q : VK} (h : te σ H fun x H1 => ∃ z, x = .str z ∧ z.length ≤ sizeLine ∧ Q (.str (revS z)) H1) : tRevS te σ H Q := h
theorem r_revZ {z : Str} {H : Hp} {Q : VK} (hz : z.length ≤ 8000) (q : Q (.str (revS z)) H) : ∃ y, V.str z = .str y ∧ y.length ≤ sizeLine ∧ Q (.str (revS y)) H := ⟨z, rfl, by rw [sizeLine_eq]; omega, q⟩
/-! zip -/
theorem r_forZo {K : PySem.W.Frag} {ta : TA} {g : TG} {tb : TS} {D : Ends} {σ : L2.St} {H : Hp} (h : ta σ H fun vs H1 => ∃ k1 k2 : Zp.Kd, vs = [k1.v, k2.v] ∧ (∃ xs, k1.has K H1 xs) ∧ (∃ ys, k2.has K H1 ys) ∧ LoopW (Zp.ItzK K k1 k2) g tb D σ H1) : tFor (Zp.iZipK K ta) g tb D σ H := h
theorem sgs_at {z : Str} {i : Nat} {x : V} (h : (Zp.sgs z)[i]? = some x) : ∃ c, (cs z)[i]? = some c ∧ x = .str ⟨#[c]⟩ := by
  rw [List.getElem?_map] at h
  obtain ⟨c, hc, rfl⟩ := Option.map_eq_some_iff.mp h
  exact ⟨c, hc, rfl⟩
/-- over zip(text, text) -/
theorem l_ZS {K : PySem.W.Frag} {x y : Str} {g : TG} {tb : TS} {D : Ends} {σ : L2.St} {H : Hp} (Pv : Nat → L2.St → Hp → Prop) (p0 : Pv 0 σ H)
    (ht : ∀ i c d σ H p, (cs x)[i]? = some c → (cs y)[i]? = some d → Pv i σ H → H p = none → g (.ref p) σ (upd H p (.tup [.str ⟨#[c]⟩, .str ⟨#[d]⟩])) fun σ2 H2 => tb { D with nx := Pv (i + 1), ct := Pv (i + 1), bk := D.nx } σ2 H2)
    (hd : ∀ σ H, Pv (min x.length y.length) σ H → D.nx σ H) :
    ∃ k1 k2 : Zp.Kd, [V.str x, V.str y] = [k1.v, k2.v] ∧ (∃ xs, k1.has K H xs) ∧ (∃ ys, k2.has K H ys) ∧ LoopW (Zp.ItzK K k1 k2) g tb D σ H := by
  refine ⟨.s x, .s y, rfl, ⟨_, rfl⟩, ⟨_, rfl⟩, for_it (Zp.walk_zipK (xs := Zp.sgs x) (ys := Zp.sgs y) rfl) Pv p0 (fun _ _ _ _ _ => ⟨rfl, rfl⟩) (fun i v σ H H' hi p yy => ?_) fun σ H p => hd σ H ?_⟩
  · obtain ⟨T, a, b, rfl, hT, rfl, ha, hb⟩ := yy
    obtain ⟨c, hc, rfl⟩ := sgs_at ha
    obtain ⟨d, hd', rfl⟩ := sgs_at hb
    exact ht i c d σ H T hc hd' p hT
  · rw [List.length_map, List.length_map, cs_len, cs_len] at p
    exact p
/-! min of a list of data -/
section
variable {prog : Program} {w : World} {A : Around} {E : Value → Shared → Prop} {s : Shared}
theorem min_list_at {l : Addr} {vs : Array Value} {xs : List PyData} {as : List Addr} {Q : Value → Shared → Prop} (hh : A.handled = none) (hl : s.heap.IsList l vs) (hr : ReadsAll s.heap vs.toList xs as) (h0 : 0 < xs.length) (ha : AlikeAll xs) (hu : A.units + 1 + PyData.depthAll xs < cLine)
    (h : ∀ v h' tk, vs[argBest (fun i j => dataLt (xs.getD i .none) (xs.getD j .none)) (xs.length - 1)]? = some v → (∀ b o, s.heap.get? b = some o → h'.get? b = some o) → Q v { s with heap := h', toks := tk }) :
    wpAny (model prog w) A (call (.builtin "min") [.ref l]) Q E s := by
  have hn : vs.size = xs.length := readsAll_len hr
  refine call_min_walkH (iter_listW (A := A.in1) hh hl fun s₂ e W st hfp hw hk => ?_)
  refine ⟨_, _, _, _, _, _, _, s.heap, _, rfl, W, st, hfp, by omega, hw, hk, cmpIn_lt (A := A.in1) hr ha (by show A.units + 1 + _ < _; exact hu), fun v s' hP m => ?_⟩
  obtain ⟨h', tk, rfl, hk'⟩ := moved_old e rfl m
  rw [hn] at hP
  exact h v h' tk hP hk'
end
theorem dpall_reads {X : Cx} {pins : List (Addr × Obj)} {σ : L2.St} {H : Hp} {s : Shared} (I : Inv X pins σ H s) : ∀ {xs : List V} {ds : List PyData} {its : List Value}, DpAll X.K H xs ds → Vals xs its → ∃ as, ReadsAll s.heap its ds as
  | _, _, _, .nil, .nil => ⟨_, .nil⟩
  | _, _, _, .cons h t, .cons r q => by
    obtain ⟨as, r1⟩ := Dp.reads I _ _ _ h r
    obtain ⟨bs, r2⟩ := dpall_reads I t q
    exact ⟨_, .cons r1 r2⟩
def rMinLs (K : PySem.W.Frag) : List V → Hp → VK → Prop := fun vs H Q => ∃ (p : Addr) (xs : List V) (ds : List PyData), vs = [.ref p] ∧ SqL K H p xs ∧ DpAll K H xs ds ∧ 0 < ds.length ∧ AlikeAll ds ∧ PyData.depthAll ds ≤ 60 ∧
  ∀ v, xs[argBest (fun i j => dataLt (ds.getD i .none) (ds.getD j .none)) (ds.length - 1)]? = some v → Q v H
theorem call_minLs {X : Cx} (hc : X.calm = true) (hu : X.A.units + 65 < cLine) : CallR X (.builtin "min") (rMinLs X.K) := by
  intro pins s σ H vs us Q I r h
  obtain ⟨p, xs, ds, rfl, hp, hd, h0, ha, hz, q⟩ := h
  rw [Vals.ref1 r]
  obtain ⟨its, rv, hl, _⟩ := I.list hp
  obtain ⟨as, hr⟩ : ∃ as, ReadsAll s.heap its ds as := dpall_reads I hd rv
  refine min_list_at (I.ok.hd hc) hl.isList (by simpa using hr) h0 ha (by omega) fun v h' tk hv k => ?_
  obtain ⟨x, hx, rx⟩ := Zp.vals_at rv (by simpa using hv)
  exact ⟨x, H, I.kept k, rx, q x hx⟩
/-- the best by a transitive relation: none is less -/
theorem best_least {bt : Nat → Nat → Bool} (tr : ∀ i j k, bt i j = true → bt j k = true → bt i k = true) (irr : ∀ i, bt i i = false) : ∀ n, argBest bt n ≤ n ∧ ∀ j, j ≤ n → bt j (argBest bt n) = false
  | 0 => ⟨Nat.le_refl _, fun j hj => by
    have e : j = 0 := by omega
    subst e
    exact irr 0⟩
  | n + 1 => by
    obtain ⟨h1, h2⟩ := best_least tr irr n
    show (if bt (n + 1) (argBest bt n) = true then n + 1 else argBest bt n) ≤ n + 1 ∧ ∀ j, j ≤ n + 1 → bt j (if bt (n + 1) (argBest bt n) = true then n + 1 else argBest bt n) = false
    by_cases c : bt (n + 1) (argBest bt n) = true
    · rw [if_pos c]
      refine ⟨Nat.le_refl _, fun j hj => ?_⟩
      by_cases e : j = n + 1
      · subst e
        exact irr _
      · cases d : bt j (n + 1) with
        | false => rfl
        | true =>
          have z := tr j (n + 1) _ d c
          rw [h2 j (by omega)] at z
          cases z
    · rw [if_neg c]
      refine ⟨by omega, fun j hj => ?_⟩
      by_cases e : j = n + 1
      · subst e
        simpa using c
      · exact h2 j (by omega)
theorem lt_ints (a b : Int) (xs ys : List PyData) : dataLt (.tuple (.int a :: xs)) (.tuple (.int b :: ys)) = if a = b then dataLt (.tuple xs) (.tuple ys) else decide (a < b) := by
  rw [dataLt_tuple]
  show PyProof.Rows.lexLt itemOrd ([.inl 1] ++ (keyToks (.int a) ++ keyToksAll xs)) ([.inl 1] ++ (keyToks (.int b) ++ keyToksAll ys)) = _
  rw [lex_pre]
  by_cases h : a = b
  · subst h
    rw [lex_pre, if_pos rfl, dataLt_tuple]
  · rw [if_neg h]
    show PyProof.Rows.lexLt itemOrd (.inl a :: keyToksAll xs) (.inl b :: keyToksAll ys) = _
    rw [lex_atom (by intro z; exact h (Sum.inl.inj z))]
    exact dataLt_int a b
/-! four numbers -/
abbrev Q4 := Int × Int × Int × Int
abbrev q4D (x : Q4) : PyData := .tuple [.int x.1, .int x.2.1, .int x.2.2.1, .int x.2.2.2]
def q4Lt (x y : Q4) : Prop := x.1 < y.1 ∨ (x.1 = y.1 ∧ (x.2.1 < y.2.1 ∨ (x.2.1 = y.2.1 ∧ (x.2.2.1 < y.2.2.1 ∨ (x.2.2.1 = y.2.2.1 ∧ x.2.2.2 < y.2.2.2)))))
theorem q4_lt (x y : Q4) : dataLt (q4D x) (q4D y) = true ↔ q4Lt x y := by
  unfold q4Lt
  show dataLt (.tuple (.int x.1 :: _)) (.tuple (.int y.1 :: _)) = true ↔ _
  rw [lt_ints]
  by_cases h1 : x.1 = y.1
  · rw [if_pos h1, lt_ints]
    by_cases h2 : x.2.1 = y.2.1
    · rw [if_pos h2, lt_ints]
      by_cases h3 : x.2.2.1 = y.2.2.1
      · rw [if_pos h3, lt_ints]
        by_cases h4 : x.2.2.2 = y.2.2.2
        · rw [if_pos h4]
          have e : dataLt (.tuple []) (.tuple []) = false := by decide +kernel
          rw [e]
          constructor
          · intro z
            cases z
          · intro z
            omega
        · rw [if_neg h4, decide_eq_true_iff]
          omega
      · rw [if_neg h3, decide_eq_true_iff]
        omega
    · rw [if_neg h2, decide_eq_true_iff]
      omega
  · rw [if_neg h1, decide_eq_true_iff]
    omega
def Q4V (H : Hp) (v : V) (x : Q4) : Prop := ∃ p, v = .ref p ∧ H p = some (.tup [.int x.1, .int x.2.1, .int x.2.2.1, .int x.2.2.2])
instance : Imm Q4V := ⟨fun t h => h.imp fun p z => ⟨z.1, t _ _ z.2⟩⟩
theorem Q4V.dp {K : PySem.W.Frag} {H : Hp} {v : V} {x : Q4} (h : Q4V H v x) : Dp K H v (q4D x) := by
  obtain ⟨p, rfl, hp⟩ := h
  exact .tup (sqT hp) (.cons (.int _) (.cons (.int _) (.cons (.int _) (.cons (.int _) .nil))))
theorem q4_dps {K : PySem.W.Frag} {H : Hp} {xs : List V} {l : List Q4} (h : P2 (Q4V H) xs l) : DpAll K H xs (l.map q4D) := by
  induction h with
  | nil => exact .nil
  | cons h t ih => exact .cons (Q4V.dp h) ih
/-- min(l), l a list of tuples of four numbers -/
theorem r_minQ4 {K : PySem.W.Frag} {H : Hp} {Q : VK} {p : Addr} {xs : List V} {l : List Q4} (hp : H p = some (.lst xs)) (h : P2 (Q4V H) xs l) (h0 : 0 < l.length) (q : ∀ v x, Q4V H v x → x ∈ l → (∀ y ∈ l, ¬ q4Lt y x) → Q v H) : rMinLs K [.ref p] H Q := by
  have dep : PyData.depthAll (l.map q4D) ≤ 60 := by
    clear h0 q h
    induction l with
    | nil => decide
    | cons x r ih =>
      show max (q4D x).depth (PyData.depthAll (r.map q4D)) ≤ 60
      have e : (q4D x).depth ≤ 2 := by simp [q4D, PyData.depth, PyData.depthAll]
      omega
  refine ⟨p, xs, l.map q4D, rfl, sqL hp, q4_dps h, by rw [List.length_map]; exact h0, ⟨fun a ha b hb => ?_, fun a ha z => ?_⟩, dep, fun v hv => ?_⟩
  · obtain ⟨x, _, rfl⟩ := List.mem_map.mp ha
    obtain ⟨y, _, rfl⟩ := List.mem_map.mp hb
    rfl
  · obtain ⟨x, _, rfl⟩ := List.mem_map.mp ha
    cases z
  · rw [List.length_map] at hv
    obtain ⟨x, hx, sx⟩ := h.get hv
    have gd : ∀ {i : Nat} {y : Q4}, l[i]? = some y → (l.map q4D).getD i .none = q4D y := fun {i y} e => by
      rw [List.getD_eq_getElem?_getD, List.getElem?_map, e]; rfl
    have at_ : ∀ i, i < l.length → ∃ y, l[i]? = some y := fun i hi => ⟨_, List.getElem?_eq_getElem hi⟩
    have lt0 : ∀ i, l.length ≤ i → (l.map q4D).getD i .none = PyData.none := fun i hi => by
      rw [List.getD_eq_getElem?_getD, List.getElem?_eq_none (by rw [List.length_map]; exact hi)]; rfl
    refine q v x sx (List.mem_of_getElem? hx) fun y hy hlt => ?_
    obtain ⟨j, hj⟩ := List.getElem?_of_mem hy
    have hjl := (List.getElem?_eq_some_iff.mp hj).1
    -- the best is least: by walking along
    have key : ∀ n, n < l.length → ∃ b, l[argBest (fun i j => dataLt ((l.map q4D).getD i .none) ((l.map q4D).getD j .none)) n]? = some b ∧ ∀ j y, j ≤ n → l[j]? = some y → ¬ q4Lt y b := by
      intro n
      induction n with
      | zero =>
        intro hn
        obtain ⟨b, hb⟩ := at_ 0 hn
        refine ⟨b, hb, fun j y hj hy => ?_⟩
        have e : j = 0 := by omega
        subst e
        rw [hb] at hy
        rw [Option.some.inj hy]
        unfold q4Lt
        omega
      | succ n ih =>
        intro hn
        obtain ⟨b, hb, hmin⟩ := ih (by omega)
        obtain ⟨c, hc⟩ := at_ (n + 1) hn
        show ∃ b, l[if dataLt ((l.map q4D).getD (n + 1) .none) ((l.map q4D).getD (argBest _ n) .none) = true then n + 1 else argBest _ n]? = some b ∧ _
        rw [gd hc, gd hb]
        by_cases e : dataLt (q4D c) (q4D b) = true
        · rw [if_pos e]
          have e' := (q4_lt c b).mp e
          refine ⟨c, hc, fun j y hj hy h => ?_⟩
          by_cases ej : j = n + 1
          · subst ej
            rw [hc] at hy
            cases hy
            unfold q4Lt at h
            omega
          · refine hmin j y (by omega) hy ?_
            unfold q4Lt at h e' ⊢
            omega
        · rw [if_neg e]
          refine ⟨b, hb, fun j y hj hy h => ?_⟩
          by_cases ej : j = n + 1
          · subst ej
            rw [hc] at hy
            cases hy
            exact e ((q4_lt _ _).mpr h)
          · exact hmin j y (by omega) hy h
    obtain ⟨b, hb, hmin⟩ := key (l.length - 1) (by omega)
    rw [hx] at hb
    cases hb
    exact hmin j y (by omega) hj hlt
end Dk

/-! list(zip(a, b)), a and b each a list, a tuple or a text -/
namespace Zl
open PySem PySem.Spec PyProof.Rows L2 Dk Zp PySem.W
section
variable {prog : Program} {w : World} {A : Around} {E : Value → Shared → Prop} {s : Shared} {z TI TO T i1 i2 : Addr} {fp1 fp2 : List Addr} {f : Bool} {oT : Obj} {i n1 n2 : Nat} {P1 P2 : Nat → Value → Prop} {St1 St2 : Nat → Heap → Prop}
theorem next_item_held {Q : Value → Shared → Prop} (S : ZipSep2 z TI TO i1 i2 fp1 fp2) (D1 : Draws prog w A i1 fp1 n1 P1 St1) (D2 : Draws prog w A i2 fp2 n2 P2 St2)
    (hz : IsZipHeld s.heap z TI TO T f) (hT : s.heap.get? T = some oT) (hTI : IsTupOf2 s.heap TI (.ref i1) (.ref i2)) (st1 : St1 i s.heap) (st2 : St2 i s.heap) (hlt1 : i < n1) (hlt2 : i < n2)
    (hQ : ∀ x1 x2 h' tk, P1 i x1 → P2 i x2 → IsZipHeld h' z TI TO T true → St1 (i + 1) h' → St2 (i + 1) h' → IsTupOf2 h' s.heap.objs.size x1 x2 → h'.objs.size = s.heap.objs.size + 1 →
      (∀ c o, c ≠ z → c ≠ i1 → c ≠ i2 → s.heap.get? c = some o → h'.get? c = some o) → Q (.ref s.heap.objs.size) { s with heap := h', toks := tk }) :
    wpAny (model prog w) A (Builtin.«zip.__next__» ⟨[.ref z], []⟩) (fun fin s' => ∃ v, fin = .done (.ret v) ∧ Q v s') E s := by
  obtain ⟨hp, g, d, tk0, os⟩ := s
  show wpAny _ _ (field (.ref z) 2 >>= _) _ _ _
  refine wpAny_bind (wpAny_field hz rfl (x := .bool false) rfl ?_)
  show wpAny _ _ (field (.ref z) 3 >>= _) _ _ _
  refine wpAny_bind (wpAny_field hz rfl (x := .ref TI) rfl ?_)
  refine wpAny_bind (wpAny_seqItems hTI rfl ?_)
  show wpAny _ _ (Builtin.SmallTypes.ownedTupleIsFree (.ref z) >>= _) _ _ _
  refine wpAny_bind (wpAny_tupleHeld_zip hz hT fun h₁ hz₁ hs₁ => ?_)
  replace hs₁ : Heap.SameBut z hp h₁ := hs₁
  simp only [Bool.false_eq_true, if_false]
  refine wpAny_bind ?_
  rw [← Array.forIn_toList]
  simp only [List.forIn_cons, List.forIn_nil]
  refine wpAny_bind (wpAny_bind (wpAny_holding ?_))
  show wpAny _ _ (Builtin.SmallTypes.nextOf (.ref i1) >>= _) _ _ ⟨h₁, g, d, tk0, os⟩
  refine wpAny_bind (D1.item i _ _ _ hlt1 (D1.over st1 hs₁ S.zf1) fun x1 p1 tk1 hx1 sn1 hp1 => wpAny_pure ?_)
  replace hp1 : Heap.SameBut i1 h₁ p1 := hp1
  refine wpAny_pure ?_
  refine wpAny_bind (wpAny_bind (wpAny_holding ?_))
  show wpAny _ _ (Builtin.SmallTypes.nextOf (.ref i2) >>= _) _ _ ⟨p1, g, d, tk1, os⟩
  refine wpAny_bind (D2.item i _ _ _ hlt2 (D2.over (D2.over st2 hs₁ S.zf2) hp1 S.sep1_2) fun x2 p2 tk2 hx2 sn2 hp2 => wpAny_pure ?_)
  replace hp2 : Heap.SameBut i2 p1 p2 := hp2
  refine wpAny_pure (wpAny_pure ?_)
  show wpAny _ _ (newTuple [x1, x2] >>= _) _ _ ⟨p2, g, d, tk2, os⟩
  refine wpAny_bind (wpAny_newTuple ?_)
  have hsz : p2.objs.size = hp.objs.size := by rw [hp2.1, hp1.1, hs₁.1]
  have hz₃ : IsZipHeld p2 z TI TO T true := hp2.extBut _ _ S.zi2 (hp1.extBut _ _ S.zi1 hz₁)
  have hk : ∀ c o, c ≠ z → c ≠ i1 → c ≠ i2 → hp.get? c = some o → p2.get? c = some o := fun c o c1 c2 c3 e => hp2.extBut _ _ c3 (hp1.extBut _ _ c2 (hs₁.extBut _ _ c1 e))
  have hj1 : St1 (i + 1) p2 := D1.over sn1 hp2 S.sep2_1
  refine wpAny_pure ⟨_, rfl, ?_⟩
  show Q (.ref p2.objs.size) ⟨p2.push { cls := .type "tuple", data := .seq #[x1, x2] }, g, d, tk2, os⟩
  have up : ∀ c o, p2.get? c = some o → (p2.push { cls := .type "tuple", data := .seq #[x1, x2] }).get? c = some o := fun c o e => Heap.get?_push_of_some _ e
  have hpT : IsTupOf2 (p2.push { cls := .type "tuple", data := .seq #[x1, x2] }) p2.objs.size x1 x2 := Heap.get?_push_size _ rfl
  have hz4 : (p2.push { cls := .type "tuple", data := .seq #[x1, x2] }).objs.size = p2.objs.size + 1 := Heap.size_push ..
  rw [hsz] at hpT hz4 ⊢
  exact hQ x1 x2 _ tk2 hx1 hx2 (up _ _ hz₃) (D1.frame _ _ _ hj1 fun b _ o e => up b o e) (D2.frame _ _ _ sn2 fun b _ o e => up b o e) hpT hz4 fun c o c1 c2 c3 e => up c o (hk c o c1 c2 c3 e)
theorem next_end_held {Q : Fin → Shared → Prop} (S : ZipSep2 z TI TO i1 i2 fp1 fp2) (D1 : Draws prog w A i1 fp1 n1 P1 St1) (D2 : Draws prog w A i2 fp2 n2 P2 St2)
    (hz : IsZipHeld s.heap z TI TO T f) (hT : s.heap.get? T = some oT) (hTI : IsTupOf2 s.heap TI (.ref i1) (.ref i2)) (st1 : St1 i s.heap) (st2 : St2 i s.heap) (hle1 : i ≤ n1) (hle2 : i ≤ n2) (hend : i = n1 ∨ i = n2)
    (hE : ∀ h' tk e, (∀ c o, c ≠ z → c ≠ i1 → c ≠ i2 → s.heap.get? c = some o → h'.get? c = some o) → (∃ o, h'.get? e = some o ∧ o.cls = .type "StopIteration") → E (.ref e) { s with heap := h', toks := tk }) :
    wpAny (model prog w) A (Builtin.«zip.__next__» ⟨[.ref z], []⟩) Q E s := by
  obtain ⟨hp, g, d, tk0, os⟩ := s
  show wpAny _ _ (field (.ref z) 2 >>= _) _ _ _
  refine wpAny_bind (wpAny_field hz rfl (x := .bool false) rfl ?_)
  show wpAny _ _ (field (.ref z) 3 >>= _) _ _ _
  refine wpAny_bind (wpAny_field hz rfl (x := .ref TI) rfl ?_)
  refine wpAny_bind (wpAny_seqItems hTI rfl ?_)
  show wpAny _ _ (Builtin.SmallTypes.ownedTupleIsFree (.ref z) >>= _) _ _ _
  refine wpAny_bind (wpAny_tupleHeld_zip hz hT fun h₁ hz₁ hs₁ => ?_)
  replace hs₁ : Heap.SameBut z hp h₁ := hs₁
  simp only [Bool.false_eq_true, if_false]
  refine wpAny_bind ?_
  rw [← Array.forIn_toList]
  simp only [List.forIn_cons, List.forIn_nil]
  refine wpAny_bind (wpAny_bind (wpAny_holding ?_))
  show wpAny _ _ (Builtin.SmallTypes.nextOf (.ref i1) >>= _) _ _ ⟨h₁, g, d, tk0, os⟩
  by_cases hlt1 : i < n1
  · refine wpAny_bind (D1.item i _ _ _ hlt1 (D1.over st1 hs₁ S.zf1) fun x1 p1 tk1 hx1 sn1 hp1 => wpAny_pure ?_)
    replace hp1 : Heap.SameBut i1 h₁ p1 := hp1
    have hi2 : i = n2 := by omega
    refine wpAny_pure ?_
    refine wpAny_bind (wpAny_bind (wpAny_holding ?_))
    show wpAny _ _ (Builtin.SmallTypes.nextOf (.ref i2) >>= _) _ _ ⟨p1, g, d, tk1, os⟩
    refine wpAny_bind (D2.done ⟨p1, g, d, tk1, os⟩ _ _ (by rw [← hi2]; exact D2.over (D2.over st2 hs₁ S.zf2) hp1 S.sep1_2) fun q e hq he => ?_)
    replace hq : Heap.ExtBut i2 p1 q := hq
    exact hE q tk1 e (fun c o cz c1 c2 x => hq _ _ c2 (hp1.extBut _ _ c1 (hs₁.extBut _ _ cz x))) he
  · have hi1 : i = n1 := by omega
    refine wpAny_bind (D1.done ⟨h₁, g, d, tk0, os⟩ _ _ (by rw [← hi1]; exact D1.over st1 hs₁ S.zf1) fun q e hq he => ?_)
    replace hq : Heap.ExtBut i1 h₁ q := hq
    exact hE q tk0 e (fun c o cz c1 c2 x => hq _ _ c1 (hs₁.extBut _ _ cz x)) he
theorem pyNext_item_held {Q : Option Value → Shared → Prop} (S : ZipSep2 z TI TO i1 i2 fp1 fp2) (D1 : Draws prog w A.in1 i1 fp1 n1 P1 St1) (D2 : Draws prog w A.in1 i2 fp2 n2 P2 St2)
    (hz : IsZipHeld s.heap z TI TO T f) (hT : s.heap.get? T = some oT) (hTI : IsTupOf2 s.heap TI (.ref i1) (.ref i2)) (st1 : St1 i s.heap) (st2 : St2 i s.heap) (hlt1 : i < n1) (hlt2 : i < n2)
    (hQ : ∀ x1 x2 h' tk, P1 i x1 → P2 i x2 → IsZipHeld h' z TI TO T true → St1 (i + 1) h' → St2 (i + 1) h' → IsTupOf2 h' s.heap.objs.size x1 x2 → h'.objs.size = s.heap.objs.size + 1 →
      (∀ c o, c ≠ z → c ≠ i1 → c ≠ i2 → s.heap.get? c = some o → h'.get? c = some o) → Q (some (.ref s.heap.objs.size)) { s with heap := h', toks := tk }) :
    wpAny (model prog w) A (pyNext (.ref z)) Q E s := by
  have hTy : s.TypeIs (.ref z) "zip" := ⟨_, hz, rfl⟩
  unfold pyNext
  exact wpAny_bind (wpAny_attempt (wpAny_callSpecial?_slot (name := Str.ofString "__next__") hTy F.slot_zip_next
    (wpAny_call_entry F.slot_zip_next hTy F.entry_zip_next
      (next_item_held S D1 D2 hz hT hTI st1 st2 hlt1 hlt2 fun x1 x2 h' tk y1 y2 b1 d1 d2 b5 b6 b7 => wpAny_pure (hQ x1 x2 h' tk y1 y2 b1 d1 d2 b5 b6 b7)) (F.args_zip_next_1 _))))
theorem pyNext_end_held {Q : Option Value → Shared → Prop} (S : ZipSep2 z TI TO i1 i2 fp1 fp2) (D1 : Draws prog w A.in1 i1 fp1 n1 P1 St1) (D2 : Draws prog w A.in1 i2 fp2 n2 P2 St2)
    (hz : IsZipHeld s.heap z TI TO T f) (hT : s.heap.get? T = some oT) (hTI : IsTupOf2 s.heap TI (.ref i1) (.ref i2)) (st1 : St1 i s.heap) (st2 : St2 i s.heap) (hle1 : i ≤ n1) (hle2 : i ≤ n2) (hend : i = n1 ∨ i = n2)
    (hQ : ∀ h' tk, (∀ c o, c ≠ z → c ≠ i1 → c ≠ i2 → s.heap.get? c = some o → h'.get? c = some o) → Q none { s with heap := h', toks := tk }) : wpAny (model prog w) A (pyNext (.ref z)) Q E s := by
  have hTy : s.TypeIs (.ref z) "zip" := ⟨_, hz, rfl⟩
  unfold pyNext
  refine wpAny_bind (wpAny_attempt (wpAny_callSpecial?_slot (name := Str.ofString "__next__") hTy F.slot_zip_next
    (wpAny_call_entry F.slot_zip_next hTy F.entry_zip_next (next_end_held S D1 D2 hz hT hTI st1 st2 hle1 hle2 hend fun h' tk e hk he => ?_) (F.args_zip_next_1 _))))
  obtain ⟨o, ho, hc⟩ := he
  refine wpAny_bind (wpAny_isInstance (T := "StopIteration") (b := true) ⟨o, ho, hc⟩ isSubtype_stop ?_)
  exact wpAny_pure (hQ _ _ hk)
end
theorem zip_no_len : typeLookup (.type "zip") "__len__" = pure none := am_miss_of_fast (by decide +kernel)
theorem zip_no_hint : typeLookup (.type "zip") "__length_hint__" = pure none := am_miss_of_fast (by decide +kernel)

section
variable {X : Cx} {pins : List (Addr × Obj)} {σ : L2.St} {H : Hp} {s : Shared} {A : Around}
theorem kd_draws (I : Inv X pins σ H s) (hh : A.handled = none) {k : Kd} {xs : List V} (hq : k.has X.K H xs) {it : Addr} (hne : k.ap it) {tk : Tok} {i : Nat} (st : k.st tk it i s.heap) :
    ∃ (fp : List Addr) (P : Nat → Value → Prop) (St : Nat → Heap → Prop), Draws X.prog X.w A it fp xs.length P St ∧ St i s.heap ∧ (∀ j v, P j v → ∃ x, xs[j]? = some x ∧ RelV x v) ∧ (∀ j h, St j h → k.st tk it j h) ∧ it ∈ fp ∧ ∀ q ∈ fp, q = it ∨ ¬ k.ap q := by
  cases k with
  | l a =>
    obtain ⟨its, rv, p, _⟩ := I.list hq
    have e : its.toArray.size = xs.length := by rw [List.size_toArray]; exact rv.length.symm
    have D := Draws.list (prog := X.prog) (w := X.w) hh it a hne its.toArray
    rw [e] at D
    refine ⟨_, _, _, D, ⟨st, p.isList⟩, fun j v hv => vals_at rv (by simpa using hv), fun j h z => z.1, by simp, fun q hq => ?_⟩
    rcases List.mem_cons.mp hq with z | z
    · exact .inl z
    · exact .inr fun c => c (List.mem_singleton.mp z).symm
  | t a =>
    obtain ⟨its, rv, p, _⟩ := I.tuple hq
    have e : its.toArray.size = xs.length := by rw [List.size_toArray]; exact rv.length.symm
    have D := Draws.tuple (prog := X.prog) (w := X.w) hh it a hne its.toArray
    rw [e] at D
    refine ⟨_, _, _, D, ⟨st, p⟩, fun j v hv => vals_at rv (by simpa using hv), fun j h z => z.1, by simp, fun q hq => ?_⟩
    rcases List.mem_cons.mp hq with z | z
    · exact .inl z
    · exact .inr fun c => c (List.mem_singleton.mp z).symm
  | s z =>
    obtain rfl : xs = sgs z := hq
    have e : z.cps.size = (sgs z).length := by simp [sgs, cs]
    have D := Draws.text (prog := X.prog) (w := X.w) hh it z tk
    rw [e] at D
    refine ⟨_, _, _, D, st, fun j v hv => ?_, fun j h q => q, by simp, fun q hq => .inl (List.mem_singleton.mp hq)⟩
    obtain ⟨c, u, hc, rfl⟩ := hv
    refine ⟨.str ⟨#[c]⟩, ?_, u, rfl⟩
    show ((cs z).map _)[j]? = _
    rw [List.getElem?_map, show (cs z)[j]? = some c by rw [Array.getElem?_toList]; exact hc]
    rfl
theorem has_up {K : PySem.W.Frag} {G G' : Hp} (e : Ex G G') {k : Kd} {xs : List V} (h : k.has K G xs) : k.has K G' xs := by
  cases k with
  | l a => exact SqL.up e h
  | t a => exact SqT.up e h
  | s z => exact h
/-- what the zip knows of the tuple that it gave out -/
def ZO (h : Heap) (z TI TO : Addr) : Option Addr → Prop
  | none => IsZip h z TI TO .none ∧ ∃ x y, IsTupOf2 h TO x y
  | some T => ∃ f oT, IsZipHeld h z TI TO T f ∧ h.get? T = some oT
structure ZSt (k1 k2 : Kd) (tk1 tk2 : Tok) (z TI TO i1 i2 : Addr) (T0 : Option Addr) (i : Nat) (h : Heap) : Prop where
  zo : ZO h z TI TO T0
  to : ∃ o, h.get? TO = some o
  ti : IsTupOf2 h TI (.ref i1) (.ref i2)
  s1 : k1.st tk1 i1 i h
  s2 : k2.st tk2 i2 i h
theorem ZSt.keep {k1 k2 : Kd} {tk1 tk2 : Tok} {z TI TO i1 i2 : Addr} {T0 : Option Addr} {i : Nat} {h h' : Heap} (st : ZSt k1 k2 tk1 tk2 z TI TO i1 i2 T0 i h)
    (k : ∀ b, (b ∈ [z, TI, TO, i1, i2] ∨ T0 = some b) → ∀ o, h.get? b = some o → h'.get? b = some o) : ZSt k1 k2 tk1 tk2 z TI TO i1 i2 T0 i h' where
  zo := by
    have q := st.zo
    cases T0 with
    | none => exact ⟨k z (.inl (by simp)) _ q.1, q.2.imp fun x y => y.imp fun y p => k TO (.inl (by simp)) _ p⟩
    | some T =>
      obtain ⟨f, oT, h1, h2⟩ := q
      exact ⟨f, oT, k z (.inl (by simp)) _ h1, k T (.inr rfl) _ h2⟩
  to := st.to.imp fun o q => k TO (.inl (by simp)) _ q
  ti := k TI (.inl (by simp)) _ st.ti
  s1 := Kd.st_keep st.s1 fun o q => k i1 (.inl (by simp)) o q
  s2 := Kd.st_keep st.s2 fun o q => k i2 (.inl (by simp)) o q
theorem zs_item {E : Value → Shared → Prop} (hh : A.in1.handled = none) (I : Inv X pins σ H s) {k1 k2 : Kd} {xs ys : List V} (hqx : k1.has X.K H xs) (hqy : k2.has X.K H ys) {z TI TO i1 i2 : Addr} (D : Ap z TI TO i1 i2 k1 k2) {tk1 tk2 : Tok} {T0 : Option Addr}
    (hT0 : ∀ T, T0 = some T → T ∉ [z, TI, TO, i1, i2]) {i : Nat} (st : ZSt k1 k2 tk1 tk2 z TI TO i1 i2 T0 i s.heap) (hf : ∀ c ∈ [z, TI, TO, i1, i2], FpOk X pins H c) (hx : i < xs.length) (hy : i < ys.length) {Q : Option Value → Shared → Prop}
    (h : ∀ x y h' tk T1, xs[i]? = some x → ys[i]? = some y → Inv X pins σ (upd H s.heap.objs.size (.tup [x, y])) { s with heap := h', toks := tk } → T1 ∉ [z, TI, TO, i1, i2] → (T1 = s.heap.objs.size ∨ T0 = some T1) →
      ZSt k1 k2 tk1 tk2 z TI TO i1 i2 (some T1) (i + 1) h' → (∀ c ∈ [z, TI, TO, i1, i2], FpOk X pins (upd H s.heap.objs.size (.tup [x, y])) c) → (∀ c o, c ∉ [z, TI, TO, i1, i2] → s.heap.get? c = some o → h'.get? c = some o) → Q (some (.ref s.heap.objs.size)) { s with heap := h', toks := tk }) :
    wpAny (model X.prog X.w) A (pyNext (.ref z)) Q E s := by
  obtain ⟨hzo, ⟨oTO, hTOo⟩, hTI, h1, h2⟩ := st
  obtain ⟨fp1, P1, St1, D1, st1, g1, b1, m1, f1⟩ := kd_draws I hh hqx D.a1.2.2.1 h1
  obtain ⟨fp2, P2, St2, D2, st2, g2, b2, m2, f2⟩ := kd_draws I hh hqy D.a2.2.2.2 h2
  have S := D.sep m1 f1 m2 f2
  have lt : ∀ c ∈ [z, TI, TO, i1, i2], c ≠ TO → c < s.heap.objs.size := fun c hcm hTO => by
    have e' : c = z ∨ c = TI ∨ c = TO ∨ c = i1 ∨ c = i2 := by simpa using hcm
    rcases e' with q | q | q | q | q
    · rw [q]
      cases T0 with
      | none => exact Heap.lt_size hzo.1
      | some T => obtain ⟨_, _, e1, _⟩ := hzo; exact Heap.lt_size e1
    · rw [q]; exact Heap.lt_size hTI
    · exact absurd q hTO
    · rw [q]; obtain ⟨_, e1, _⟩ := Kd.st_obj h1; exact Heap.lt_size e1
    · rw [q]; obtain ⟨_, e2, _⟩ := Kd.st_obj h2; exact Heap.lt_size e2
  have fin : ∀ (u u2 : Value) (h' : Heap) (tk : Nat) (T1 : Addr), P1 i u → P2 i u2 → St1 (i + 1) h' → St2 (i + 1) h' → IsTupOf2 h' s.heap.objs.size u u2 → (∀ c o, c ∉ [z, TI, TO, i1, i2] → s.heap.get? c = some o → h'.get? c = some o) → IsTupOf2 h' TI (.ref i1) (.ref i2) → (∃ o, h'.get? TO = some o) →
      ZO h' z TI TO (some T1) → T1 ∉ [z, TI, TO, i1, i2] → (T1 = s.heap.objs.size ∨ T0 = some T1) → (∀ c ∈ [z, TI, TO, i1, i2], c ≠ s.heap.objs.size) → Q (some (.ref s.heap.objs.size)) { s with heap := h', toks := tk } := fun u u2 h' tk T1 p1 p2 s1' s2' hT hk ti to zo n1 n2 nc => by
    obtain ⟨x, hxx, ru⟩ := g1 _ _ p1
    obtain ⟨y, hyy, ru2⟩ := g2 _ _ p2
    have new : ObjOk X.prog X.w (upd H s.heap.objs.size (.tup [x, y])) h' s.heap.objs.size (.tup [x, y]) :=
      ⟨by show 2 ≤ sizeLine; decide, [u, u2], .cons ru (.cons ru2 .nil), ⟨_, hT, rfl, _, rfl⟩⟩
    have I1 : Inv X pins σ (upd H s.heap.objs.size (.tup [x, y])) { s with heap := h', toks := tk } :=
      I.turnedNew (t' := tk) (ch := [z, TI, TO, i1, i2]) hk hf (Nat.le_refl _) new
    exact h x y h' tk T1 hxx hyy I1 n1 n2 ⟨zo, to, ti, b1 _ _ s1', b2 _ _ s2'⟩ (fun c hc => ⟨by rw [upd_ne (nc c hc)]; exact (hf c hc).1, (hf c hc).2⟩) hk
  cases T0 with
  | none =>
    obtain ⟨hz, x0, y0, hTO⟩ := hzo
    have nc : ∀ c ∈ [z, TI, TO, i1, i2], c ≠ s.heap.objs.size := fun c hc => by
      by_cases e : c = TO
      · rw [e]; exact Nat.ne_of_lt (Heap.lt_size hTO)
      · exact Nat.ne_of_lt (lt c hc e)
    refine wpAny_pyNext_zipD2_item S D1 D2 hz hTI hTO st1 st2 hx hy fun u u2 h' tk p1 p2 z' TO' s1' s2' hT hsz hk => ?_
    exact fin u u2 h' tk s.heap.objs.size p1 p2 s1' s2' hT (fun c o hb q => hk c o (fun q' => hb (by simp [q'])) (fun q' => hb (by simp [q'])) (fun q' => hb (by simp [q'])) (fun q' => hb (by simp [q'])) q)
      (hk _ _ D.TIz D.TITO D.TIi1 D.TIi2 hTI) ⟨_, TO'⟩ ⟨false, _, z', hT⟩ (fun hc => nc _ hc rfl) (.inl rfl) nc
  | some T =>
    obtain ⟨f, oT, hz, hgT⟩ := hzo
    have nT := hT0 T rfl
    have nc : ∀ c ∈ [z, TI, TO, i1, i2], c ≠ s.heap.objs.size := fun c hc z => by
      have q := (hf c hc).1
      by_cases e : c = TO
      · exact Nat.lt_irrefl _ (z ▸ e ▸ Heap.lt_size hTOo)
      · exact Nat.lt_irrefl _ (z ▸ lt c hc e)
    refine pyNext_item_held S D1 D2 hz hgT hTI st1 st2 hx hy fun u u2 h' tk p1 p2 z' s1' s2' hT hsz hk => ?_
    exact fin u u2 h' tk T p1 p2 s1' s2' hT (fun c o hb q => hk c o (fun q' => hb (by simp [q'])) (fun q' => hb (by simp [q'])) (fun q' => hb (by simp [q'])) q)
      (hk _ _ D.TIz D.TIi1 D.TIi2 hTI) ⟨_, hk _ _ D.TOz D.TOi1 D.TOi2 hTOo⟩ ⟨true, oT, z', hk _ _ (fun q => nT (by simp [q])) (fun q => nT (by simp [q])) (fun q => nT (by simp [q])) hgT⟩ nT (.inr rfl) nc
theorem zs_done {E : Value → Shared → Prop} (hh : A.in1.handled = none) (I : Inv X pins σ H s) {k1 k2 : Kd} {xs ys : List V} (hqx : k1.has X.K H xs) (hqy : k2.has X.K H ys) {z TI TO i1 i2 : Addr} (D : Ap z TI TO i1 i2 k1 k2) {tk1 tk2 : Tok} {T0 : Option Addr}
    {i : Nat} (st : ZSt k1 k2 tk1 tk2 z TI TO i1 i2 T0 i s.heap) (hf : ∀ c ∈ [z, TI, TO, i1, i2], FpOk X pins H c) (hx : i ≤ xs.length) (hy : i ≤ ys.length) (he : i = xs.length ∨ i = ys.length) {Q : Option Value → Shared → Prop}
    (h : ∀ h' tk, Inv X pins σ H { s with heap := h', toks := tk } → Q none { s with heap := h', toks := tk }) : wpAny (model X.prog X.w) A (pyNext (.ref z)) Q E s := by
  obtain ⟨hzo, ⟨oTO, hTOo⟩, hTI, h1, h2⟩ := st
  obtain ⟨fp1, P1, St1, D1, st1, g1, b1, m1, f1⟩ := kd_draws I hh hqx D.a1.2.2.1 h1
  obtain ⟨fp2, P2, St2, D2, st2, g2, b2, m2, f2⟩ := kd_draws I hh hqy D.a2.2.2.2 h2
  have S := D.sep m1 f1 m2 f2
  have fin : ∀ h' tk, (∀ c o, c ∉ [z, TI, TO, i1, i2] → s.heap.get? c = some o → h'.get? c = some o) → Q none { s with heap := h', toks := tk } := fun h' tk hk =>
    h h' tk (I.turnedL (t' := tk) (ch := [z, TI, TO, i1, i2]) hk hf)
  cases T0 with
  | none =>
    obtain ⟨hz, x0, y0, hTO⟩ := hzo
    exact wpAny_pyNext_zipD2_end S D1 D2 hz hTI hTO st1 st2 hx hy he fun h' tk hk => fin h' tk fun c o hb q => hk c o (fun q' => hb (by simp [q'])) (fun q' => hb (by simp [q'])) (fun q' => hb (by simp [q'])) (fun q' => hb (by simp [q'])) q
  | some T =>
    obtain ⟨f, oT, hz, hgT⟩ := hzo
    exact pyNext_end_held S D1 D2 hz hgT hTI st1 st2 hx hy he fun h' tk hk => fin h' tk fun c o hb q => hk c o (fun q' => hb (by simp [q'])) (fun q' => hb (by simp [q'])) (fun q' => hb (by simp [q'])) q
/-- a pair of things, by value -/
def PqV (H : Hp) (v : V) (q : V × V) : Prop := ∃ t, v = .ref t ∧ H t = some (.tup [q.1, q.2])
instance : Imm PqV := ⟨fun t h => h.imp fun p z => ⟨z.1, t _ _ z.2⟩⟩
theorem zip_take {α β : Type} {xs : List α} {ys : List β} {i : Nat} {x : α} {y : β} (h1 : xs[i]? = some x) (h2 : ys[i]? = some y) : (xs.zip ys).take (i + 1) = (xs.zip ys).take i ++ [(x, y)] := by
  rw [List.take_add_one, (List.getElem?_zip_eq_some (z := (x, y))).mpr ⟨h1, h2⟩]
  rfl
theorem zl_loop {R : Result → Shared → Prop} {H1 : Hp} {k1 k2 : Kd} {xs ys : List V} (hx1 : k1.has X.K H1 xs) (hy1 : k2.has X.K H1 ys) {z TI TO i1 i2 : Addr} (D : Ap z TI TO i1 i2 k1 k2) {tk1 tk2 : Tok} {S : Addr} (hS1 : H1 S = none) (hSn : S ∉ [z, TI, TO, i1, i2]) (hh : A.in1.in1.handled = none)
    (hz : xs.length ≤ sizeLine) (hz2 : ys.length ≤ sizeLine) (res : Value) (hR : ∀ H' s' acc, Inv X pins σ H' s' → Ex H1 H' → H' S = some (.lst acc) → P2 (PqV H') acc (xs.zip ys) → R (.ok (.ret res)) s') :
    ∀ (k i : Nat) (s : Shared) (H : Hp) (acc : List V) (T0 : Option Addr), min xs.length ys.length - i = k → i ≤ min xs.length ys.length → Inv X pins σ H s → Ex H1 H → H S = some (.lst acc) → P2 (PqV H) acc ((xs.zip ys).take i) → (∀ T, T0 = some T → T ∉ [z, TI, TO, i1, i2] ∧ T ≠ S) →
      ZSt k1 k2 tk1 tk2 z TI TO i1 i2 T0 i s.heap → (∀ c ∈ [z, TI, TO, i1, i2], FpOk X pins H c) → codeAny (model X.prog X.w) A (.builtin "list.extend.loop" ⟨[.ref S, .ref z, res], []⟩) R s := by
  intro k
  induction k with
  | zero =>
    intro i s H acc T0 hk hi I e hS hP hT0 st hf
    refine codeAny_builtin PySem.F.entry_extend_loop ?_
    rw [Around.under_plainId PySem.F.plain_extend_loop _]
    show wpAny _ A.in1 (pyNext (.ref z) >>= _) _ _ _
    refine wpAny_bind (zs_done (A := A.in1) hh I (has_up e hx1) (has_up e hy1) D st hf (by omega) (by omega) (by omega) fun h' tk I' => ?_)
    refine wpAny_pure (hR _ _ acc I' e hS ?_)
    rw [List.take_of_length_le (by rw [List.length_zip]; omega)] at hP
    exact hP
  | succ k ih =>
    intro i s H acc T0 hk hi I e hS hP hT0 st hf
    have al := hP.len
    rw [List.length_take, List.length_zip] at al
    refine codeAny_builtin PySem.F.entry_extend_loop ?_
    rw [Around.under_plainId PySem.F.plain_extend_loop _]
    show wpAny _ A.in1 (pyNext (.ref z) >>= _) _ _ _
    refine wpAny_bind (zs_item (A := A.in1) hh I (has_up e hx1) (has_up e hy1) D (fun T h => (hT0 T h).1) st hf (by omega) (by omega) fun x y h' tk T1 hx hy I1 n1 n2 st' hf' hk' => ?_)
    have hSs : S ≠ s.heap.objs.size := fun q => by
      have z := I.fresh
      rw [← q, hS] at z
      cases z
    have hS2 : (upd H s.heap.objs.size (.tup [x, y])) S = some (.lst acc) := by rw [upd_ne hSs]; exact hS
    obtain ⟨z1, its, n, r, hl, eS⟩ := I1.lstM hS2
    have T1S : T1 ≠ S := by
      rcases n2 with q | q
      · rw [q]; exact Ne.symm hSs
      · exact (hT0 T1 q).2
    show wpAny _ A.in1 (updateSeq S (·.push (Value.ref s.heap.objs.size)) >>= _) _ _ { s with heap := h', toks := tk }
    refine wpAny_bind ?_
    have I2 := I1.lset (ys := acc ++ [.ref s.heap.objs.size]) (its' := its ++ [.ref s.heap.objs.size]) (f := fun a => a.push (Value.ref s.heap.objs.size)) (t' := tk) hS2 eS (by simp) (r.append (.cons (show L2.RelV (V.ref s.heap.objs.size) (Value.ref s.heap.objs.size) from rfl) .nil)) (by rw [List.length_append, List.length_singleton]; omega)
    refine wpAny_updateSeq eS rfl (wpAny_pure ⟨plainId_quiet PySem.F.plain_extend_loop _, ih (i + 1) _ _ (acc ++ [.ref s.heap.objs.size]) (some T1) (by omega) (by omega) I2 ?_ upd_same ?_ ?_ ?_ ?_⟩) ?_ ?_
    · exact Same.mut (e.trans (Same.new (Same.refl H) I.fresh)) hS1
    · rw [zip_take hx hy]
      have tn : Tk H (upd H s.heap.objs.size (.tup [x, y])) := .ex (Same.new (Same.refl H) I.fresh)
      have tp := Tk.put (o := .lst (acc ++ [.ref s.heap.objs.size])) hS2
      exact (p2_imm (tn.trans tp) hP).snoc (imm tp ⟨_, rfl, upd_same⟩)
    · intro T hT
      cases hT
      exact ⟨n1, T1S⟩
    · refine st'.keep fun b hb o q => (Heap.get?_update_other _ _ ?_).trans q
      rcases hb with hb | hb
      · exact fun q0 => hSn (by rw [q0]; exact hb)
      · cases hb
        exact Ne.symm T1S
    · intro c hc
      exact ⟨by rw [upd_ne fun q0 => hSn (by rw [← q0]; exact hc)]; exact (hf' c hc).1, (hf' c hc).2⟩
    · rw [List.size_toArray]
      omega
    · show (its.toArray.push _).size ≤ sizeLine + 1
      rw [Array.size_push, List.size_toArray]
      omega
def tListZip (K : PySem.W.Frag) (ta : TA) : TE := fun σ H Q => ta σ H fun vs H1 => ∃ (k1 k2 : Kd) (xs ys : List V), vs = [k1.v, k2.v] ∧ k1.has K H1 xs ∧ k2.has K H1 ys ∧ xs.length ≤ sizeLine ∧ ys.length ≤ sizeLine ∧
  ∀ p H' acc, Ex H1 H' → H1 p = none → H' p = some (.lst acc) → P2 (PqV H') acc (xs.zip ys) → Q (.ref p) H'
theorem pe_listZip {e e2 : Expr} {ta : TA} {p p2 pos pos2 : Pos} (hc : X.calm = true) (hg : Gl X "list") (hm : X.mg "list" = none) (hgz : Gl X "zip") (hmz : X.mg "zip" = none) (ha : PA X [e, e2] ta)
    (hs : starEach [.Call (.Name "zip" p2) [e, e2] [] pos2] X.env = (false, eval (.Call (.Name "zip" p2) [e, e2] [] pos2) X.env) :: starEach [] X.env := by rfl)
    (hs2 : starEach [e, e2] X.env = (false, eval e X.env) :: starEach [e2] X.env := by rfl) (hpl : (backTo pos2 (starEach [e2] X.env)).any (·.1) = false := by rfl) :
    PE X (.Call (.Name "list" p) [.Call (.Name "zip" p2) [e, e2] [] pos2] [] pos) (tListZip X.K ta) := by
  refine ⟨fun pins s σ H Q I h => ?_⟩
  refine wpAny_Call_Name_kw (ld_blt I hg hm boot_list ?_)
  refine PyProof.Rows.callWith_type1 ?_ hs rfl
  rw [hs]
  show wpAny _ _ (spliced ((false, eval (.Call (.Name "zip" p2) [e, e2] [] pos2) X.env) :: backTo pos (starEach [] X.env))) _ _ s
  refine Calls.spliced_cons ?_
  refine Call_ (ld_blt I hgz hmz PyProof.Rows.boot_zip (PyProof.Rows.callWith_type1 (thn (ha.run pos2 pins s σ H _ I h) fun us s1 ⟨vs, H1, I1, r1, q1⟩ => ?_) hs2 hpl))
  obtain ⟨k1, k2, xs, ys, ex, hx, hy, lx, ly, q⟩ := q1
  subst ex
  cases r1 with
  | cons r rr =>
    cases rr with
    | cons r' rr =>
      cases rr
      obtain ⟨o1, HH1, tk1, B1, g1, st1, ap1⟩ := Kd.begins I1 hx r
      obtain ⟨o2, HH2, tk2, B2, g2, st2, ap2⟩ := Kd.begins I1 hy r'
      refine zip_begins2 B1 B2 g1 g2 fun h' hz hTI hTO h1 h2 hsz hk => ?_
      have I2 : Inv X pins σ H1 { s1 with heap := h' } := I1.kept (t' := s1.toks) hk
      have fresh5 : ∀ c, c ∈ [s1.heap.objs.size + 4, s1.heap.objs.size + 2, s1.heap.objs.size + 3, s1.heap.objs.size, s1.heap.objs.size + 1] → FpOk X pins H1 c := fun c hcm => by
        have hle : s1.heap.objs.size ≤ c := by
          have e' : c = s1.heap.objs.size + 4 ∨ c = s1.heap.objs.size + 2 ∨ c = s1.heap.objs.size + 3 ∨ c = s1.heap.objs.size ∨ c = s1.heap.objs.size + 1 := by simpa using hcm
          omega
        exact I1.fpOk hle (I1.hok.fresh hle)
      have ap : Ap (s1.heap.objs.size + 4) (s1.heap.objs.size + 2) (s1.heap.objs.size + 3) s1.heap.objs.size (s1.heap.objs.size + 1) k1 k2 :=
        ⟨ne_nat (by omega), ne_nat (by omega), ne_nat (by omega), ne_nat (by omega), ne_nat (by omega), ne_nat (by omega), ne_nat (by omega), ne_nat (by omega), ne_nat (by omega), ne_nat (by omega), ⟨ap1 _ (by omega), ap1 _ (by omega), ap1 _ (by omega), ap1 _ (by omega)⟩, ⟨ap2 _ (by omega), ap2 _ (by omega), ap2 _ (by omega), ap2 _ (by omega)⟩⟩
      have zst : ZSt k1 k2 tk1 tk2 (s1.heap.objs.size + 4) (s1.heap.objs.size + 2) (s1.heap.objs.size + 3) s1.heap.objs.size (s1.heap.objs.size + 1) none 0 h' := ⟨⟨hz, _, _, hTO⟩, ⟨_, hTO⟩, hTI, st1 _ _ h1, st2 _ _ h2⟩
      have lt : ∀ c, c ∈ [s1.heap.objs.size + 4, s1.heap.objs.size + 2, s1.heap.objs.size + 3, s1.heap.objs.size, s1.heap.objs.size + 1] → c < h'.objs.size := fun c hcm => by
        have e' : c = s1.heap.objs.size + 4 ∨ c = s1.heap.objs.size + 2 ∨ c = s1.heap.objs.size + 3 ∨ c = s1.heap.objs.size ∨ c = s1.heap.objs.size + 1 := by simpa using hcm
        have hzl := Heap.lt_size hz
        omega
      generalize hzz : s1.heap.objs.size + 4 = z at *
      generalize s1.heap.objs.size + 2 = TI at *
      generalize s1.heap.objs.size + 3 = TO at *
      generalize s1.heap.objs.size + 1 = i2 at *
      generalize hi1 : s1.heap.objs.size = i1 at *
      refine Calls.spliced_nil ?_
      refine callType_codes (Q₁ := fun obj s₁ => obj = .ref h'.objs.size ∧ s₁ = { s1 with heap := h'.push { cls := .type "list", data := .seq #[] } }) PySem.F.called_list (PySem.F.typeCall_list_1 _) PySem.F.entry_list_init
        (code_list_new _ ⟨rfl, rfl⟩) fun obj s₁ h₁ => ?_
      obtain ⟨rfl, rfl⟩ := h₁
      have hSn : H1 h'.objs.size = none := I2.hok.fresh (Nat.le_refl _)
      have I3 := I2.lnew (ys := []) (its := []) (t' := s1.toks) .nil (Nat.zero_le _)
      have hS : (h'.push { cls := .type "list", data := .seq #[] }).get? h'.objs.size = some { cls := .type "list", data := .seq ([] : List Value).toArray } := Heap.get?_push_size _ rfl
      have sn : h'.objs.size ∉ [z, TI, TO, i1, i2] := fun hcm => Nat.lt_irrefl _ (lt _ hcm)
      refine ⟨⟨_, hS, rfl⟩, PySem.F.args_list_init_2 _ _, ?_⟩
      show wpAny _ X.A.in1.in1 (do let old ← Builtin.List.listItems (.ref h'.objs.size); Builtin.List.listUpdate (.ref h'.objs.size) (fun _ => #[]); letGo old.toList.reverse; Builtin.List.listExtendWith (.ref h'.objs.size) (.ref z) .none) _ _ _
      refine wpAny_bind ?_
      unfold Builtin.List.listItems
      refine wpAny_bind (wpAny_seqItems hS rfl (wpAny_pure ?_))
      show wpAny _ X.A.in1.in1 (updateSeq h'.objs.size (fun _ => #[]) >>= fun _ => letGo (#[] : Array Value).toList.reverse >>= fun _ => Builtin.List.listExtendWith (.ref h'.objs.size) (.ref z) .none) _ _ _
      refine wpAny_bind (wpAny_updateSeq hS rfl ?_)
      have I4 := I3.lset (l := h'.objs.size) (xs := []) (ys := []) (its := []) (its' := []) (f := fun _ => #[]) (t' := s1.toks) upd_same hS rfl .nil (Nat.zero_le _)
      have hS2 := Heap.get?_update_self (Obj.mapSeq (fun _ => (#[] : Array Value))) hS rfl
      refine wpAny_bind (wpAny_letGo ?_)
      unfold Builtin.List.listExtendWith
      have up : ∀ (hh : Heap) (f : Obj → Obj), (∀ b o, b ≠ h'.objs.size → h'.get? b = some o → hh.get? b = some o) → ∀ b o, b ≠ h'.objs.size → h'.get? b = some o → (hh.update h'.objs.size f).get? b = some o := fun hh f q b o n e =>
        (Heap.get?_update_other _ _ (Ne.symm n)).trans (q b o n e)
      have u1 : ∀ b o, b ≠ h'.objs.size → h'.get? b = some o → (h'.push { cls := .type "list", data := .seq #[] }).get? b = some o := fun b o _ e => Heap.get?_push_of_some _ e
      have u2 := up _ (Obj.mapSeq (fun _ => (#[] : Array Value))) u1
      have zS : z ≠ h'.objs.size := Nat.ne_of_lt (Heap.lt_size hz)
      have hz2 := u2 _ _ zS hz
      refine wpAny_bind (wpAny_typeOf (T := "zip") ⟨_, hz2, rfl⟩ ?_)
      have b1 : Builtin.List.listSameRef (.ref h'.objs.size) (.ref z) = false := by simp [Builtin.List.listSameRef, Ne.symm zS]
      have b2 : (Value.type "zip" == Value.type "list") = false := by decide
      have b3 : (Value.type "zip" == Value.type "tuple") = false := by decide
      simp only [b1, b2, b3, Bool.or_false, Bool.false_eq_true, if_false]
      refine wpAny_bind (wpAny_pyIter_zip hz2 ?_)
      refine wpAny_bind (wpAny_holding ?_)
      unfold Builtin.List.listLengthHint
      refine wpAny_bind (wpAny_specialOf (T := "zip") ⟨_, hz2, rfl⟩ zip_no_len ?_)
      show wpAny _ X.A.in1.in1 (specialOf (Value.ref z) (Str.ofString "__length_hint__") >>= _) _ _ _
      refine wpAny_bind (wpAny_specialOf (T := "zip") ⟨_, hz2, rfl⟩ zip_no_hint ?_)
      refine wpAny_pure ?_
      show wpAny _ X.A.in1.in1 (rule "list.extend.makes-room" >>= fun _ => Builtin.List.listTouch (.ref h'.objs.size) >>= fun _ =>
        again (.builtin "list.extend.loop" ⟨[.ref h'.objs.size, .ref z, .none], []⟩)) _ _ _
      refine wpAny_bind (wpAny_rule ?_)
      refine wpAny_bind ?_
      show wpAny _ X.A.in1.in1 (updateSeq h'.objs.size (·.push .none) >>= fun _ => updateSeq h'.objs.size (·.pop)) _ _ _
      refine wpAny_bind (wpAny_updateSeq hS2 rfl ?_)
      have I5 := I4.lset (l := h'.objs.size) (xs := []) (ys := [.non]) (its := []) (its' := [.none]) (f := (·.push .none)) (t' := s1.toks) upd_same hS2 rfl (.cons rfl .nil) (by decide)
      have hS3 := Heap.get?_update_self (Obj.mapSeq (·.push Value.none)) hS2 rfl
      refine wpAny_updateSeq (hz := by seq_fits) hS3 rfl ?_
      have I6 := I5.lset (l := h'.objs.size) (xs := [.non]) (ys := []) (its := [.none]) (its' := []) (f := (·.pop)) (t' := s1.toks) upd_same hS3 rfl .nil (Nat.zero_le _)
      have u4 := up _ (Obj.mapSeq (·.pop)) (up _ (Obj.mapSeq (·.push Value.none)) u2)
      refine wpAny_pure ⟨plainId_quiet PySem.F.plain_extend_loop _, ?_⟩
      have eH : Ex H1 (upd (upd (upd (upd H1 h'.objs.size (.lst [])) h'.objs.size (.lst [])) h'.objs.size (.lst [.non])) h'.objs.size (.lst [])) :=
        Same.mut (Same.mut (Same.mut (Same.new (Same.refl H1) hSn) hSn) hSn) hSn
      refine zl_loop (X := X) (pins := pins) (σ := σ) (A := X.A.in1) (H1 := H1) hx hy ap hSn sn (I.ok.hd hc) lx ly .none (fun H' s' acc I' e' hS' hP => ⟨rfl, .ref _, H', I', rfl, q _ H' acc e' hSn hS' hP⟩)
        _ 0 _ _ [] none rfl (Nat.zero_le _) I6 eH upd_same .nil (fun T h => by cases h) (zst.keep fun b hb o q => u4 b o (fun z => ?_) q) (fun c hcm => ?_)
      · rcases hb with hb | hb
        · exact sn (z ▸ hb)
        · cases hb
      · have n : c ≠ h'.objs.size := Nat.ne_of_lt (lt c hcm)
        refine ⟨?_, (fresh5 c hcm).2⟩
        rw [upd_ne n, upd_ne n, upd_ne n, upd_ne n]
        exact (fresh5 c hcm).1
end
end Zl

/-! a rule of our own: xs[a:c] = ys -/
namespace Dk
open PySem PySem.Spec PyProof.Rows L2 PySem.SeqAt PySem.W
def gSli (to : TE) (tl th : TO) : TG := fun v σ H Q => to σ H fun o H1 => tl σ H1 fun lo H2 => th σ H2 fun hi H3 => ∃ (l b : Addr) (xs ys : List V) (a c : Int), o = .ref l ∧ v = .ref b ∧ lo = some a ∧ hi = some c ∧
  H3 l = some (.lst xs) ∧ H3 b = some (.lst ys) ∧ l ≠ b ∧ 0 ≤ a ∧ a ≤ c ∧ c ≤ xs.length ∧ xs.length + ys.length ≤ sizeLine ∧ Q σ (upd H3 l (.lst (xs.take a.toNat ++ ys ++ xs.drop c.toNat)))
theorem pg_sli {X : Cx} {o : Expr} {lo hi : Option Expr} {to : TE} {tl th : TO} {pos p2 : Pos} (ho : PE X o to) (hl : PO X lo tl) (hu : PO X hi th)
    (ha : ∀ v, assign (.Subscript o (.Slice lo hi none p2) pos) X.env v = (do
      let ov ← holding [v] (eval o X.env)
      let iv ← holding [v, ov] (eval (.Slice lo hi none p2) X.env)
      standAt pos
      holding [v, ov, iv] (setItem ov iv v)
      release [iv, v, ov] []) := by intro _; rfl) : PG X (.Subscript o (.Slice lo hi none p2) pos) (gSli to tl th) := by
  refine ⟨fun pins s σ H v u Q I r h => ?_⟩
  rw [ha]
  refine wpAny_bind (wpAny_holding (thn (ho.run pins s σ H _ I h) fun ov s1 ⟨x, H1, I1, r1, q1⟩ => ?_))
  refine wpAny_bind (wpAny_holding (wpAny_Slice (thn (hl.run pins s1 σ H1 _ I1 q1) fun vl s2 ⟨l, H2, I2, pl, q2⟩ => thn (hu.run pins s2 σ H2 _ I2 q2) fun vu s3 ⟨w, H3, I3, pu, q3⟩ => ?_)))
  rw [evalPart_none]
  refine wpAny_pure ?_
  have I4 : Inv X pins σ H3 { s3 with heap := s3.heap.push { cls := .type "slice", data := .fields #[vl, vu, .none] } } := I3.kept (t' := s3.toks) fun b ob q => Heap.get?_push_of_some _ q
  obtain ⟨la, lb, xs, ys, a, c, rfl, rfl, rfl, rfl, h1, h2, h3, h4, h5, h6, h7, q⟩ := q3
  cases r1
  cases r
  have ra : RelV (.int a) vl := by
    cases pl with
    | int _ t => exact ⟨t, rfl⟩
  have rc : RelV (.int c) vu := by
    cases pu with
    | int _ t => exact ⟨t, rfl⟩
  refine wpAny_bind (wpAny_standAt (wpAny_bind (wpAny_holding ?_)))
  refine set_slice (s := { s3 with heap := s3.heap.push { cls := .type "slice", data := .fields #[vl, vu, .none] } }) (sl := s3.heap.objs.size) I4 h1 h2 h3 (Heap.IsSliceOf.new ..) ra rc h4 h5 h6 h7 fun s' I' => ?_
  exact wpAny_release ⟨σ, _, I', q⟩
theorem r_gsli {v : V} {σ : L2.St} {H : Hp} {Q : L2.St → Hp → Prop} {to : TE} {tl th : TO} (h : to σ H fun o H1 => tl σ H1 fun lo H2 => th σ H2 fun hi H3 => ∃ (l b : Addr) (xs ys : List V) (a c : Int), o = .ref l ∧ v = .ref b ∧ lo = some a ∧ hi = some c ∧
  H3 l = some (.lst xs) ∧ H3 b = some (.lst ys) ∧ l ≠ b ∧ 0 ≤ a ∧ a ≤ c ∧ c ≤ xs.length ∧ xs.length + ys.length ≤ sizeLine ∧ Q σ (upd H3 l (.lst (xs.take a.toNat ++ ys ++ xs.drop c.toNat)))) : gSli to tl th v σ H Q := h
end Dk

/-! isinstance of a caught error that has fields -/
namespace Dk
open PySem PySem.Spec PyProof.Rows L2
def rIsED (K : PySem.W.Frag) (D a : Addr) (cls : Value) (d : Option Addr) : List V → Hp → VK → Prop := fun xs H Q => cls = .ref D ∧ ∃ (dd : Addr) (fs : List (Str × V)) (c : V) (cv : Value) (b : Bool), d = some dd ∧ H dd = some (.xd fs) ∧ xs = [.ref a, c] ∧ (∀ u, RelV c u → u = cv) ∧ PySem.W.kitOne K (.ref D) cv = some b ∧ Q (.bl b) H
theorem call_isED {X : Cx} {a D : Addr} {oe : Obj} {cls : Value} {d : Option Addr} {pn : List (Addr × Obj)} (C : ExcC X.K D) (hz : Zc cls d oe) (hf : ∃ vs, oe.data = .fields vs) : CallR (X.suite a ((a, oe) :: pn)) (.builtin "isinstance") (rIsED X.K D a cls d) := by
  intro pins s σ H xs us Q I r h
  obtain ⟨ec, dd, fs, c, cv, b, ed, ea, rfl, hcv, e, q⟩ := h
  subst ec ed
  cases r with
  | cons rx rr =>
    cases rr with
    | cons rt rr =>
      cases rr
      cases rx
      have ec := hcv _ rt
      subst ec
      obtain ⟨hget, _⟩ := I.pin (a, oe) (List.mem_append_left _ List.mem_cons_self)
      obtain ⟨vs, hd⟩ := hf
      have hx : ObjOk X.prog X.w H s.heap dd (.xd fs) := I.hok dd _ ea
      obtain ⟨mA, hns, hr⟩ := hx
      obtain ⟨od, ho, hl⟩ := lookIn_ns hns
      have J : PySem.W.InstAt s.heap a oe D (some od) := ⟨hget, hz.1, by unfold PySem.W.notCls; rw [hd] <;> rfl, by rw [hz.2]; exact ho⟩
      have hcl : (PySem.W.clsIn X.K D).isSome = true := by
        obtain ⟨cdD, hcD, _⟩ := PySem.W.any_some C.hd
        rw [hcD]; rfl
      exact PySem.W.kia_one (PySem.W.kitx_exc hcl C.hg C.hk C.hs C.ha C.hn C.ht C.hm) I.kIn J e (fun z => nomatch z) fun tk => ⟨.bl b, H, I.kept (t' := tk) fun _ _ z => z, rfl, q⟩
theorem r_isED {K : PySem.W.Frag} {D a dd : Addr} {cls : Value} {d : Option Addr} {fs : List (Str × V)} {c : V} {cv : Value} {b : Bool} {H : Hp} {Q : VK} (h1 : cls = .ref D) (h2 : d = some dd) (h3 : H dd = some (.xd fs)) (h4 : ∀ u, RelV c u → u = cv) (h5 : PySem.W.kitOne K (.ref D) cv = some b) (q : Q (.bl b) H) : rIsED K D a cls d [.ref a, c] H Q :=
  ⟨h1, dd, fs, c, cv, b, h2, h3, rfl, h4, h5, q⟩
end Dk

/-! more rules: keywords inside a try, dicts, locks, a few methods -/
namespace Dk
open PySem PySem.Spec PyProof.Rows L2 LiI StX
section
variable {X : Cx} {CX : CXT} {k : Nat} {f : Addr} {fd : FuncData} {ps ks : List Str} {sp : Sp} {E : L2.St → XK} {x : Str} {p pos : Pos} {kws : List Keyword} {tk : TA} {g : List Value → List Value → List Value} {gV : List V → List V → List V}
def tCallKS (sp : Sp) (gV : List V → List V → List V) (E : L2.St → XK) (tk : TA) : TE := fun σ H Q => tk σ H fun zs H2 => sp (gV [] zs) H2 Q (E σ)
theorem pe_callKS (F : FnOk X.prog X.w X.K X.mg X.base CX k f fd ps sp) (hr : Room k X.A) (hg : Gl X x) (hm : X.mg x = some (.ref f)) (hk : PySem.W.keepIn X.K (.ref f) = true) (hb : KBinds X.K fd ps ks g gV) (hx : ∀ σ, PassesAt CX X σ (E σ))
    (hkw : PK X kws tk) (hall : (backToKw pos (keywordEach kws X.env)).all (·.1.isSome) = true := by rfl) (hks : (backToKw pos (keywordEach kws X.env)).filterMap (·.1) = ks := by rfl)
    (hdb : (x == ("__debug__" : Str)) = false := by decide)
    (hpl : ((backTo pos (starEach [] X.env)).any (·.1) || (backToKw pos (keywordEach kws X.env)).any (·.1.isNone)) = false := by rfl) :
    PE X (.Call (.Name x p) [] kws pos) (tCallKS sp gV E tk) := by
  refine ⟨fun pins s σ H Q I h => ?_⟩
  refine wpAny_Call_Name_kw (ld_glob I hg hm ?_ hdb)
  refine PySem.W.callWith_KW0 (h₀ := X.base) I.ok.mod.kin hk hall (thn (hkw.run pos pins s σ H _ I h) fun ws s2 ⟨zs, H2, I2, rz, q2⟩ => ⟨I2.kIn, ?_⟩) hpl
  rw [hks]
  have r2 := hb.rel (us := []) (vs := []) .nil rz
  have hl : (g [] ws).length = ps.length := by rw [← r2.length]; exact F.len _ _ _ _ q2
  refine wpAny_call (codeAny_mono (F.run X.A X.stack s2 H2 ⟨[], ks.zip ws⟩ (g [] ws) (gV [] zs) Q (E σ) hr I2.env0 (hb.to s2 [] ws I2.kIn hl) r2 q2) fun r s' hq => ?_)
  cases r with
  | error e => exact hx σ pins H2 s2 e s' I2 hq
  | ok fl =>
    cases fl with
    | ret u => exact I2.after hq
    | next => exact False.elim hq
    | brk => exact False.elim hq
    | cont => exact False.elim hq
theorem r_callKS {σ : L2.St} {H : Hp} {Q : VK} (h : tk σ H fun zs H2 => sp (gV [] zs) H2 Q (E σ)) : tCallKS sp gV E tk σ H Q := h
end
section
variable {K : PySem.W.Frag} {td ty te to : TE} {σ : L2.St} {H : Hp} {Q : VK} {v x y : V} {D : Ends}
theorem r_chain {r r' : R2} {ta tb tc : TE} (h : ta σ H fun x H1 => tb σ H1 fun y H2 => r x y H2 fun z H3 => ∃ k, z = .bl k ∧ (if k = true then tc σ H3 fun w' H4 => r' y w' H4 Q else Q (.bl false) H3)) : tChain r r' ta tb tc σ H Q := h
theorem r_dget (h : td σ H fun x H1 => ty σ H1 fun y H2 => ∃ a v, x = .ref a ∧ DGet H2 a y (some v) ∧ Q v H2) : tDGet td ty σ H Q := h
theorem r_din (h : ty σ H fun y H1 => td σ H1 fun x H2 => ∃ a o, x = .ref a ∧ DGet H2 a y o ∧ Q (.bl o.isSome) H2) : tDIn ty td σ H Q := h
theorem r_dnotin (h : ty σ H fun y H1 => td σ H1 fun x H2 => ∃ a o, x = .ref a ∧ DGet H2 a y o ∧ Q (.bl (!o.isSome)) H2) : tDNotIn ty td σ H Q := h
theorem r_lock {t : TS} (h : ∃ d u, H d = some u ∧ Mut (some u) ∧ ∀ od, t ⟨fun σ' H' => H' d = some (.frz od u) ∧ D.nx σ' (upd H' d u), fun v H' => H' d = some (.frz od u) ∧ D.rt v (upd H' d u), fun σ' H' => H' d = some (.frz od u) ∧ D.bk σ' (upd H' d u), fun σ' H' => H' d = some (.frz od u) ∧ D.ct σ' (upd H' d u)⟩ σ (upd H d (.frz od u))) : tLock t D σ H := h
theorem r_items (h : te σ H fun x H1 => rItemsL x H1 Q) : tListItems te σ H Q := h
theorem r_bits (h : to σ H fun x H1 => ∃ i, x = .int i ∧ Q (.int (Builtin.Int.intBits i : Nat)) H1) : tBits to σ H Q := h
theorem r_starC {t : TA} {QA : List V → Hp → Prop} (h : te σ H fun x H1 => ∃ p xs, x = V.ref p ∧ (SqT K H1 p xs ∨ SqL K H1 p xs) ∧ t σ H1 fun ys H2 => QA (xs ++ ys) H2) : tStar K te t σ H QA := h
theorem r_forKo {g : TG} {tb : TS} (h : td σ H fun x H1 => ∃ d o, x = .ref d ∧ ((∃ kvs, H1 d = some (.frz o (.dK kvs)) ∧ LoopW (Itk d o kvs) g tb D σ H1) ∨ ∃ kvs, H1 d = some (.frz o (.dT kvs)) ∧ LoopW (Itkt d o kvs) g tb D σ H1)) : tFor (iKeys td) g tb D σ H := h
end
/-- l.index(x, k) -/
def rIndexD3 (K : PySem.W.Frag) : V → List V → Hp → VK → Prop := fun x xs H Q => ∃ (a : Addr) (y : V) (d : PyData) (ds : List PyData) (j : Nat) (z : PyData) (k : Int), x = V.ref a ∧ xs = [y, .int k] ∧ Dp K H (V.ref a) (.list ds) ∧ Dp K H y d ∧
  SeqAt.shaped (.list ds) = true ∧ SeqAt.shaped d = true ∧ ds[j]? = some z ∧ PyData.eqv z d = true ∧ 0 ≤ k ∧ k ≤ (j : Int) ∧ (∀ (m : Nat) (z' : PyData), k ≤ (m : Int) → m < j → ds[m]? = some z' → PyData.eqv z' d = false) ∧ Q (.int (j : Nat)) H
theorem mt_indexD3 {X : Cx} (hu : X.A.units + 65 < cLine) : MtR X "list.index" (rIndexD3 X.K) := by
  intro pins s σ H x xs v us Q I rx rxs h
  obtain ⟨a, y, d, ds, j, z, k, rfl, rfl, hl, hy, sl, sd, hz, hzj, k0, kj, hno, q⟩ := h
  cases rx
  cases rxs with
  | cons ry rt =>
    rename_i uy ut
    cases rt with
    | cons rk rt =>
    rename_i uk ut
    cases rt
    obtain ⟨tk, rfl⟩ := rk
    obtain ⟨bs, r1⟩ := Dp.reads I d y uy hy ry
    have hxs : PyData.canLayAll0 ds = true := SeqAt.canLay_of_shaped sl
    have hroom : X.A.units + 1 + min (PyData.depthAll ds) d.depth < cLine := room_in_shaped sd hu
    cases hl with
    | lst hs ha =>
      obtain ⟨its, rv, ⟨⟨cls, dd, data, sls⟩, n, ho, hc, hdn, hdt⟩, hlen⟩ := I.list hs
      simp only at hc hdt
      subst hc hdt
      obtain ⟨as, h4⟩ := Dp.readsAll I ds _ its ha rv
      have hn : its.length = ds.length := SeqAt.ReadsAll.length ds its as h4
      have hmap : its.map (SeqAt.readOf s.heap) = ds := SeqAt.readsAll_map ds its as hxs h4
      have hvl := rv.length
      have hsl := sizeLine_eq
      obtain ⟨hjd, _⟩ := List.getElem?_eq_some_iff.mp hz
      have hjl : j < its.length := by omega
      have hj : j < its.toArray.size := by simpa using hjl
      have at_ : ∀ (m : Nat) (hm : m < its.toArray.size) (z' : PyData), ds[m]? = some z' → SeqAt.readOf s.heap its.toArray[m] = z' := by
        intro m hm z' hz'
        have hml : m < its.length := by simpa using hm
        rw [← hmap, List.getElem?_map, List.getElem?_eq_getElem hml] at hz'
        have e1 : SeqAt.readOf s.heap its[m] = z' := Option.some.inj (show some (SeqAt.readOf s.heap its[m]) = some z' from hz')
        simpa using e1
      have sf : SeqAt.searchFrom k its.toArray.size = k.toNat := SeqAt.searchFrom_nonneg k0 _
      have eqs := SeqAt.items_eqAt (A := X.A) (vs := its.toArray) (show ReadsAll s.heap its.toArray.toList ds as from h4) r1 hxs (SeqAt.canLay_of_shaped sd) hroom
      refine call_meets PySem.F.slot_list_index ⟨_, ho, rfl⟩ PySem.F.entry_list_index (PySem.F.args_list_index_3 _ _ _)
        (SeqAt.list_index3_found a its.toArray n dd sls uy (fun m => PyData.eqv (SeqAt.readOf s.heap (its.toArray[m]?.getD .none)) d) k tk j hj (by rw [sf]; omega) (by omega) ?_ ?_) ⟨ho, fun m hm => ?_, ?_⟩
      · show PyData.eqv (SeqAt.readOf s.heap (its.toArray[j]?.getD .none)) d = true
        rw [Array.getElem?_eq_getElem hj, Option.getD_some, at_ j hj z hz]
        exact hzj
      · intro m hm hkm hmj
        have hmd : m < ds.length := by omega
        have hz' : ds[m]? = some ds[m] := List.getElem?_eq_getElem hmd
        show PyData.eqv (SeqAt.readOf s.heap (its.toArray[m]?.getD .none)) d = false
        rw [Array.getElem?_eq_getElem hm, Option.getD_some, at_ m hm _ hz']
        exact hno m _ (by rw [sf] at hkm; omega) hmj hz'
      · show SeqAt.EqAt _ _ _ _ (PyData.eqv (SeqAt.readOf s.heap (its.toArray[m]?.getD .none)) d)
        rw [Array.getElem?_eq_getElem hm, Option.getD_some]
        exact eqs _ (Array.getElem_mem hm)
      · exact ⟨.int (j : Nat), H, I.tok _, ⟨_, rfl⟩, q⟩
theorem r_indexSg3 {K : PySem.W.Frag} {H : Hp} {Q : VK} {a : Addr} {xs : List V} {v : V} {m : List Tl.Sg} {x : Tl.Sg} {j : Nat} {k : Int} (hl : SqL K H a xs) (hm : SgL K H xs m) (hv : SgV K H v x) (hj : m[j]? = some x) (k0 : 0 ≤ k) (kj : k ≤ (j : Int)) (hno : ∀ i, i < j → m[i]? ≠ some x) (q : Q (.int (j : Nat)) H) :
    rIndexD3 K (.ref a) [v, .int k] H Q := by
  refine ⟨a, v, sgD x, m.map sgD, j, sgD x, k, rfl, rfl, .lst hl hm.dps, hv.dp, sgs_shaped m, sg_shaped x, by rw [List.getElem?_map, hj]; rfl, by rw [sg_eqv]; simp, k0, kj, fun i z _ hi hz => ?_, q⟩
  rw [List.getElem?_map] at hz
  obtain ⟨y, hy, rfl⟩ := Option.map_eq_some_iff.mp hz
  rw [sg_eqv]
  refine decide_eq_false fun e => hno i hi ?_
  rw [hy, e]
def p0 {α : Type} : List α → List α → List α
  | [], [a] => [a]
  | _, _ => []
theorem p0_rel {vs zs : List V} {us ws : List Value} (r : Vals vs us) (q : Vals zs ws) : Vals (p0 vs zs) (p0 us ws) := by
  cases r with
  | cons => exact .nil
  | nil => rcases q with _ | ⟨a, _ | _⟩
           · exact .nil
           · exact .cons a .nil
           · exact .nil
def p2310 {α : Type} : List α → List α → List α
  | [], [a, b, c, d] => [c, d, b, a]
  | _, _ => []
theorem p2310_rel {vs zs : List V} {us ws : List Value} (r : Vals vs us) (q : Vals zs ws) : Vals (p2310 vs zs) (p2310 us ws) := by
  cases r with
  | cons => exact .nil
  | nil => rcases q with _ | ⟨a, _ | ⟨b, _ | ⟨c, _ | ⟨d, _ | _⟩⟩⟩⟩
           · exact .nil
           · exact .nil
           · exact .nil
           · exact .nil
           · exact .cons c (.cons d (.cons b (.cons a .nil)))
           · exact .nil
theorem r_m1 {r : V → List V → Hp → VK → Prop} {σ : L2.St} {H : Hp} {Q : VK} {to te : TE} (h : to σ H fun x H1 => (∃ a, x = .str a) ∧ te σ H1 fun y H2 => r x [y] H2 Q) : tM1 r to te σ H Q := h
theorem r_lcTo {K : PySem.W.Frag} {tl : TE} {g : TG} {tt : TT} {te : TE} {vs : List Nat} {σ : L2.St} {H : Hp} {Q : VK} (h : tl σ H fun x H1 => ∃ a, x = .ref a ∧ (∃ xs, SqT K H1 a xs) ∧ ∀ D, H1 D = none → ∃ W : Nat → Nat → Hp → Prop, (∃ m, W 0 m (upd H1 D (.lst []))) ∧ ∀ i m H, W i m H →
  ((Itt K a).stop i H ∧ Q (.ref D) H) ∨ ((Itt K a).go i H ∧ ∃ Nx : Hp → Prop, (∀ H', Nx H' → ∃ m', m' < m ∧ W (i + 1) m' H') ∧ ∀ x H', (Itt K a).yld i H x H' → g x (wipe σ vs) H' fun σ2 H2 => wipe σ2 vs = wipe σ vs ∧ tt σ2 H2 fun b H3 =>
    if b = true then te σ2 H3 fun y H4 => ∃ acc, H4 D = some (.lst acc) ∧ acc.length < sizeLine ∧ Nx (upd H4 D (.lst (acc ++ [y]))) else Nx H3)) : tLc (iTup K tl) g tt te vs σ H Q := h
theorem l_lcT {K : PySem.W.Frag} {a : Addr} {xs : List V} {g : TG} {tt : TT} {te : TE} {vs : List Nat} {σ : L2.St} {H1 : Hp} {Qd : Addr → Hp → Prop} (hs0 : SqT K H1 a xs) (Pv : Addr → Nat → Hp → Prop) (h0 : ∀ D, H1 D = none → Pv D 0 (upd H1 D (.lst []))) (hl : ∀ D i H, Pv D i H → SqT K H a xs)
    (hs : ∀ D (i : Nat) x H, H1 D = none → xs[i]? = some x → Pv D i H → g x (wipe σ vs) H fun σ2 H2 => wipe σ2 vs = wipe σ vs ∧ tt σ2 H2 fun b H3 =>
      if b = true then te σ2 H3 fun y H4 => ∃ acc, H4 D = some (.lst acc) ∧ acc.length < sizeLine ∧ Pv D (i + 1) (upd H4 D (.lst (acc ++ [y]))) else Pv D (i + 1) H3) (hd : ∀ D H, H1 D = none → Pv D xs.length H → Qd D H) :
    ∃ b, V.ref a = .ref b ∧ (∃ xs, SqT K H1 b xs) ∧ ∀ D, H1 D = none → ∃ W : Nat → Nat → Hp → Prop, (∃ m, W 0 m (upd H1 D (.lst []))) ∧ ∀ i m H, W i m H →
  ((Itt K b).stop i H ∧ Qd D H) ∨ ((Itt K b).go i H ∧ ∃ Nx : Hp → Prop, (∀ H', Nx H' → ∃ m', m' < m ∧ W (i + 1) m' H') ∧ ∀ x H', (Itt K b).yld i H x H' → g x (wipe σ vs) H' fun σ2 H2 => wipe σ2 vs = wipe σ vs ∧ tt σ2 H2 fun b H3 =>
    if b = true then te σ2 H3 fun y H4 => ∃ acc, H4 D = some (.lst acc) ∧ acc.length < sizeLine ∧ Nx (upd H4 D (.lst (acc ++ [y]))) else Nx H3) :=
  ⟨a, rfl, ⟨xs, hs0⟩, fun D hD => lc_tup (Pv D) (h0 D hD) (fun i H _ p => hl D i H p) (fun i x H hx p => hs D i x H hD hx p) fun H p => hd D H hD p⟩
/-- over the keys of a locked dict -/
theorem l_K {d : Addr} {o : Obj} {kvs : List (Key × V)} {g : TG} {tb : TS} {D : Ends} {σ : L2.St} {H : Hp} (hd : H d = some (.frz o (.dK kvs))) (Pv : Nat → L2.St → Hp → Prop) (p0 : Pv 0 σ H) (hl : ∀ i σ H, Pv i σ H → H d = some (.frz o (.dK kvs)))
    (ht : ∀ i k v σ H, kvs[i]? = some (k, v) → Pv i σ H → g (kV k) σ H fun σ2 H2 => tb { D with nx := Pv (i + 1), ct := Pv (i + 1), bk := D.nx } σ2 H2)
    (hn : ∀ σ H, Pv kvs.length σ H → D.nx σ H) :
    ∃ d' o', V.ref d = .ref d' ∧ ((∃ kvs, H d' = some (.frz o' (.dK kvs)) ∧ LoopW (Itk d' o' kvs) g tb D σ H) ∨ ∃ kvs, H d' = some (.frz o' (.dT kvs)) ∧ LoopW (Itkt d' o' kvs) g tb D σ H) := by
  refine ⟨d, o, rfl, .inl ⟨kvs, hd, for_it walk_keys Pv p0 (fun i σ H _ p => hl i σ H p) (fun i v σ H H' hi p y => ?_) hn⟩⟩
  obtain ⟨rfl, k, w, hk, rfl⟩ := y
  exact ht i k w σ _ hk p
theorem r_lcZo {K : PySem.W.Frag} {ta : TA} {g : TG} {tt : TT} {te : TE} {vs : List Nat} {σ : L2.St} {H : Hp} {Q : VK} (h : ta σ H fun us H1 => ∃ k1 k2 : Zp.Kd, us = [k1.v, k2.v] ∧ (∃ xs, k1.has K H1 xs) ∧ (∃ ys, k2.has K H1 ys) ∧ ∀ D, H1 D = none → ∃ W : Nat → Nat → Hp → Prop, (∃ m, W 0 m (upd H1 D (.lst []))) ∧ ∀ i m H, W i m H →
  ((Zp.ItzK K k1 k2).stop i H ∧ Q (.ref D) H) ∨ ((Zp.ItzK K k1 k2).go i H ∧ ∃ Nx : Hp → Prop, (∀ H', Nx H' → ∃ m', m' < m ∧ W (i + 1) m' H') ∧ ∀ x H', (Zp.ItzK K k1 k2).yld i H x H' → g x (wipe σ vs) H' fun σ2 H2 => wipe σ2 vs = wipe σ vs ∧ tt σ2 H2 fun b H3 =>
    if b = true then te σ2 H3 fun y H4 => ∃ acc, H4 D = some (.lst acc) ∧ acc.length < sizeLine ∧ Nx (upd H4 D (.lst (acc ++ [y]))) else Nx H3)) : tLc (Zp.iZipK K ta) g tt te vs σ H Q := h
theorem l_lcZ {K : PySem.W.Frag} (k1 k2 : Zp.Kd) {xs ys : List V} {g : TG} {tt : TT} {te : TE} {vs : List Nat} {σ : L2.St} {H1 : Hp} {Qd : Addr → Hp → Prop} (hx : k1.has K H1 xs) (hy : k2.has K H1 ys) (Pv : Addr → Nat → Hp → Prop) (h0 : ∀ D, H1 D = none → Pv D 0 (upd H1 D (.lst [])))
    (hl : ∀ D i H, Pv D i H → k1.has K H xs ∧ k2.has K H ys)
    (hs : ∀ D (i : Nat) x y H p, H1 D = none → xs[i]? = some x → ys[i]? = some y → Pv D i H → H p = none → g (.ref p) (wipe σ vs) (upd H p (.tup [x, y])) fun σ2 H2 => wipe σ2 vs = wipe σ vs ∧ tt σ2 H2 fun b H3 =>
      if b = true then te σ2 H3 fun y H4 => ∃ acc, H4 D = some (.lst acc) ∧ acc.length < sizeLine ∧ Pv D (i + 1) (upd H4 D (.lst (acc ++ [y]))) else Pv D (i + 1) H3) (hd : ∀ D H, H1 D = none → Pv D (min xs.length ys.length) H → Qd D H) :
    ∃ k1' k2' : Zp.Kd, [k1.v, k2.v] = [k1'.v, k2'.v] ∧ (∃ xs, k1'.has K H1 xs) ∧ (∃ ys, k2'.has K H1 ys) ∧ ∀ D, H1 D = none → ∃ W : Nat → Nat → Hp → Prop, (∃ m, W 0 m (upd H1 D (.lst []))) ∧ ∀ i m H, W i m H →
  ((Zp.ItzK K k1' k2').stop i H ∧ Qd D H) ∨ ((Zp.ItzK K k1' k2').go i H ∧ ∃ Nx : Hp → Prop, (∀ H', Nx H' → ∃ m', m' < m ∧ W (i + 1) m' H') ∧ ∀ x H', (Zp.ItzK K k1' k2').yld i H x H' → g x (wipe σ vs) H' fun σ2 H2 => wipe σ2 vs = wipe σ vs ∧ tt σ2 H2 fun b H3 =>
    if b = true then te σ2 H3 fun y H4 => ∃ acc, H4 D = some (.lst acc) ∧ acc.length < sizeLine ∧ Nx (upd H4 D (.lst (acc ++ [y]))) else Nx H3) :=
  ⟨k1, k2, rfl, ⟨_, hx⟩, ⟨_, hy⟩, fun D hD => lc_it (Zp.walk_zipK rfl) (Pv D) (h0 D hD) (fun i H _ p => hl D i H p) (fun i v H H' hi p y => by
    obtain ⟨T, a, b, rfl, hT, rfl, ha, hb⟩ := y
    exact hs D i a b H T hD ha hb p hT) fun H p => hd D H hD p⟩
/-- over zip(tuple, tuple) -/
theorem l_ZK {K : PySem.W.Frag} (k1 k2 : Zp.Kd) {xs ys : List V} {g : TG} {tb : TS} {D : Ends} {σ : L2.St} {H : Hp} (hx : k1.has K H xs) (hy : k2.has K H ys) (Pv : Nat → L2.St → Hp → Prop) (p0 : Pv 0 σ H) (hl : ∀ i σ H, Pv i σ H → k1.has K H xs ∧ k2.has K H ys)
    (ht : ∀ i x y σ H p, xs[i]? = some x → ys[i]? = some y → Pv i σ H → H p = none → g (.ref p) σ (upd H p (.tup [x, y])) fun σ2 H2 => tb { D with nx := Pv (i + 1), ct := Pv (i + 1), bk := D.nx } σ2 H2)
    (hd : ∀ σ H, Pv (min xs.length ys.length) σ H → D.nx σ H) :
    ∃ k1' k2' : Zp.Kd, [k1.v, k2.v] = [k1'.v, k2'.v] ∧ (∃ xs, k1'.has K H xs) ∧ (∃ ys, k2'.has K H ys) ∧ LoopW (Zp.ItzK K k1' k2') g tb D σ H := by
  refine ⟨k1, k2, rfl, ⟨_, hx⟩, ⟨_, hy⟩, for_it (Zp.walk_zipK (xs := xs) (ys := ys) rfl) Pv p0 (fun i σ H _ p => hl i σ H p) (fun i v σ H H' hi p yy => ?_) hd⟩
  obtain ⟨T, a, b, rfl, hT, rfl, ha, hb⟩ := yy
  exact ht i a b σ H T ha hb p hT
/-! ### a class of two fields -/
section
variable {K : PySem.W.Frag} {σ : L2.St} {H : Hp} {C : Addr} {f g : Str} {v u : V} {W : XK}
def spInit2 (C : Addr) (f g : Str) : Sp := fun vs H Q _ => ∃ (a : Addr) (v u : V), vs = [.ref a, v, u] ∧ H a = some (exo a C none) ∧
  ∀ dx, H dx = none → dx ≠ a → Q .non (upd (upd (upd H dx (exd dx [(f, v)])) a (exo a C (some dx))) dx (exd dx [(g, u), (f, v)]))
theorem r_raise2 (q : ∀ d, H d = none → W (.ref C) (some d) (upd H d (.xd [(g, u), (f, v)]))) :
    ([v, u] : List V).length ≤ 1000 ∧ ∀ a, H a = none → spInit2 C f g (.ref a :: ([v, u] ++ [])) (upd H a (exo a C none))
      (fun w H2 => w = .non ∧ ∃ (d : Addr) (fs : List (Str × V)), H2 a = some (exo a C (some d)) ∧ H2 d = some (exd d fs) ∧ H d = none ∧ W (.ref C) (some d) (upd (del H2 a) d (.xd fs))) (fun _ _ _ => False) := by
  refine ⟨by show 2 ≤ 1000; decide, fun a ha => ⟨a, v, u, rfl, upd_same, fun dx hdx hne => ⟨rfl, dx, [(g, u), (f, v)], ?_, upd_same, ?_, ?_⟩⟩⟩
  · rw [upd_ne hne.symm]
    exact upd_same
  · rw [upd_ne hne] at hdx
    exact hdx
  · rw [upd_ne hne] at hdx
    have e : upd (del (upd (upd (upd (upd H a (exo a C none)) dx (exd dx [(f, v)])) a (exo a C (some dx))) dx (exd dx [(g, u), (f, v)])) a) dx (.xd [(g, u), (f, v)]) = upd H dx (.xd [(g, u), (f, v)]) := by
      funext b
      by_cases h1 : b = dx
      · rw [h1, upd_same, upd_same]
      · rw [upd_ne h1, upd_ne h1]
        by_cases h2 : b = a
        · rw [h2, del_same, ha]
        · rw [del_ne h2, upd_ne h1, upd_ne h2, upd_ne h1, upd_ne h2]
    rw [e]
    exact q dx hdx
end
/-- for k in range(a, a + n) -/
theorem l_R2 {a n : Nat} {b : Int} {g : TG} {tb : TS} {σ : L2.St} {H : Hp} {D : Ends} (hb : b = ((a + n : Nat) : Int)) (h2 : a + n ≤ 1000000) (Pv : Nat → L2.St → Hp → Prop) (p0 : Pv 0 σ H)
    (ht : ∀ (i : Nat) σ H, i < n → Pv i σ H → g (.int ((a + i : Nat) : Int)) σ H fun σ2 H2 => tb { D with nx := Pv (i + 1), ct := Pv (i + 1), bk := D.nx } σ2 H2) (hd : ∀ σ H, Pv n σ H → D.nx σ H) :
    ∃ i j : Int, [V.int (a : Nat), V.int b] = [.int i, .int j] ∧ (-(2 ^ 62) ≤ i ∧ i < 2 ^ 62 ∧ -(2 ^ 62) ≤ j ∧ j < 2 ^ 62) ∧ LoopW (Itr i (j - i).toNat) g tb D σ H := by
  subst hb
  refine ⟨a, ((a + n : Nat) : Int), rfl, ⟨by omega, by omega, by omega, by omega⟩, for_range Pv p0 (fun i σ H hi p => ?_) fun σ H p => hd σ H ?_⟩
  · have z := ht i σ H (by omega) p
    rw [show ((a : Nat) : Int) + (i : Nat) = ((a + i : Nat) : Int) by omega]
    exact z
  · have e : (((a + n : Nat) : Int) - ((a : Nat) : Int)).toNat = n := by omega
    rw [e] at p
    exact p
/-! ### over a list or a tuple -/
def iEith (K : PySem.W.Frag) (tl : TE) : TI := fun σ H R => tl σ H fun x H1 => ∃ a, x = .ref a ∧ (((∃ xs, SqL K H1 a xs) ∧ R (Itl K a) H1) ∨ ((∃ xs, SqT K H1 a xs) ∧ R (Itt K a) H1))
theorem pi_eith {X : Cx} {tg l : Expr} {tl : TE} (hl : PE X l tl) : PI X tg l (iEith X.K tl) := by
  refine ⟨fun pins s σ H R I h => ?_⟩
  refine thn (hl.run pins s σ H _ I h) fun v s1 ⟨x, H1, I1, r1, q1⟩ => ?_
  obtain ⟨a, e, q1⟩ := q1
  subst e
  cases r1
  rcases q1 with ⟨⟨xs, hq⟩, q⟩ | ⟨⟨xs, hq⟩, q⟩
  · obtain ⟨its, rv, p, hz⟩ := I1.list hq
    refine wpAny_pyIter_list p.isList ?_
    refine ⟨s1.heap.objs.size, [s1.heap.objs.size], _, _, H1, rfl, I1.kept (t' := s1.toks) fun b o e => Heap.get?_push_of_some _ e, turn_list a _, ⟨_, Heap.get?_push_size _ rfl, rfl, rfl⟩, fun b hb => ?_, q⟩
    have e : b = s1.heap.objs.size := by simpa using hb
    subst e
    exact I1.fpOk (Nat.le_refl _) (I1.hok.fresh (Nat.le_refl _))
  · obtain ⟨its, rv, p, hz⟩ := I1.tuple hq
    refine wpAny_pyIter_tuple (show s1.heap.IsTuple a its.toArray from p) ?_
    refine ⟨s1.heap.objs.size, [s1.heap.objs.size], _, _, H1, rfl, I1.kept (t' := s1.toks) fun b o e => Heap.get?_push_of_some _ e, turn_tuple a _, ⟨_, Heap.get?_push_size _ rfl, rfl, rfl⟩, fun b hb => ?_, q⟩
    have e : b = s1.heap.objs.size := by simpa using hb
    subst e
    exact I1.fpOk (Nat.le_refl _) (I1.hok.fresh (Nat.le_refl _))
section
variable {K : PySem.W.Frag} {tl : TE} {g : TG} {tb : TS} {D : Ends} {σ : L2.St} {H : Hp}
theorem r_forEi (h : tl σ H fun x H1 => ∃ a, x = .ref a ∧ (((∃ xs, SqL K H1 a xs) ∧ LoopW (Itl K a) g tb D σ H1) ∨ ((∃ xs, SqT K H1 a xs) ∧ LoopW (Itt K a) g tb D σ H1))) : tFor (iEith K tl) g tb D σ H := h
theorem l_EL {a : Addr} {xs : List V} (hs : SqL K H a xs) (Pv : Nat → L2.St → Hp → Prop) (p0 : Pv 0 σ H) (hl : ∀ i σ H, Pv i σ H → SqL K H a xs)
    (ht : ∀ i x σ H, xs[i]? = some x → Pv i σ H → g x σ H fun σ2 H2 => tb { D with nx := Pv (i + 1), ct := Pv (i + 1), bk := D.nx } σ2 H2) (hd : ∀ σ H, Pv xs.length σ H → D.nx σ H) :
    ∃ b, V.ref a = .ref b ∧ (((∃ xs, SqL K H b xs) ∧ LoopW (Itl K b) g tb D σ H) ∨ ((∃ xs, SqT K H b xs) ∧ LoopW (Itt K b) g tb D σ H)) := by
  obtain ⟨b, e, h1, h2⟩ := l_L hs Pv p0 hl ht hd
  exact ⟨b, e, .inl ⟨h1, h2⟩⟩
theorem l_ET {a : Addr} {xs : List V} (hs : SqT K H a xs) (Pv : Nat → L2.St → Hp → Prop) (p0 : Pv 0 σ H) (hl : ∀ i σ H, Pv i σ H → SqT K H a xs)
    (ht : ∀ i x σ H, xs[i]? = some x → Pv i σ H → g x σ H fun σ2 H2 => tb { D with nx := Pv (i + 1), ct := Pv (i + 1), bk := D.nx } σ2 H2) (hd : ∀ σ H, Pv xs.length σ H → D.nx σ H) :
    ∃ b, V.ref a = .ref b ∧ (((∃ xs, SqL K H b xs) ∧ LoopW (Itl K b) g tb D σ H) ∨ ((∃ xs, SqT K H b xs) ∧ LoopW (Itt K b) g tb D σ H)) := by
  obtain ⟨b, e, h1, h2⟩ := l_T hs Pv p0 hl ht hd
  exact ⟨b, e, .inr ⟨h1, h2⟩⟩
theorem r_inSg {Q : VK} {v : V} {p : Addr} {xs : List V} {x : Tl.Sg} {m : List Tl.Sg} (h1 : SgV K H v x) (hp : SqL K H p xs) (h2 : SgL K H xs m) (q : Q (.bl (decide (x ∈ m))) H) : rInD K v (.ref p) H Q := by
  exact ⟨_, _, h1.dp, .lst hp h2.dps, sg_shaped x, sgs_shaped m, by
    have e : ((m.map sgD).any fun z => PyData.eqv z (sgD x)) = decide (x ∈ m) := by
      rw [List.any_map, Bool.eq_iff_iff, List.any_eq_true, decide_eq_true_iff]
      constructor
      · rintro ⟨y, hy, e⟩
        rw [Function.comp_apply, sg_eqv, decide_eq_true_iff] at e
        rw [← e]
        exact hy
      · intro h
        exact ⟨x, h, by rw [Function.comp_apply, sg_eqv]; exact decide_eq_true rfl⟩
    rw [e]
    exact q⟩
end
section
variable {K : PySem.W.Frag} {a : Addr} {xs : List V} {g : TG} {tt : TT} {te : TE} {vs : List Nat} {σ : L2.St} {H1 : Hp} {Qd : Addr → Hp → Prop}
/-- what a comprehension over such a thing asks -/
def LcI (J : It) (g : TG) (tt : TT) (te : TE) (vs : List Nat) (σ : L2.St) (H1 : Hp) (Qd : Addr → Hp → Prop) : Prop := ∀ D, H1 D = none → ∃ W : Nat → Nat → Hp → Prop, (∃ m, W 0 m (upd H1 D (.lst []))) ∧ ∀ i m H, W i m H →
  (J.stop i H ∧ Qd D H) ∨ (J.go i H ∧ ∃ Nx : Hp → Prop, (∀ H', Nx H' → ∃ m', m' < m ∧ W (i + 1) m' H') ∧ ∀ x H', J.yld i H x H' → g x (wipe σ vs) H' fun σ2 H2 => wipe σ2 vs = wipe σ vs ∧ tt σ2 H2 fun b H3 =>
    if b = true then te σ2 H3 fun y H4 => ∃ acc, H4 D = some (.lst acc) ∧ acc.length < sizeLine ∧ Nx (upd H4 D (.lst (acc ++ [y]))) else Nx H3)
theorem r_lcEio {tl : TE} {H : Hp} {Q : VK} (h : tl σ H fun x H1 => ∃ a, x = .ref a ∧ (((∃ xs, SqL K H1 a xs) ∧ LcI (Itl K a) g tt te vs σ H1 fun D H => Q (.ref D) H) ∨ ((∃ xs, SqT K H1 a xs) ∧ LcI (Itt K a) g tt te vs σ H1 fun D H => Q (.ref D) H))) : tLc (iEith K tl) g tt te vs σ H Q := h
theorem l_lcEL (hs0 : SqL K H1 a xs) (Pv : Addr → Nat → Hp → Prop) (h0 : ∀ D, H1 D = none → Pv D 0 (upd H1 D (.lst []))) (hl : ∀ D i H, Pv D i H → SqL K H a xs)
    (hs : ∀ D (i : Nat) x H, H1 D = none → xs[i]? = some x → Pv D i H → g x (wipe σ vs) H fun σ2 H2 => wipe σ2 vs = wipe σ vs ∧ tt σ2 H2 fun b H3 =>
      if b = true then te σ2 H3 fun y H4 => ∃ acc, H4 D = some (.lst acc) ∧ acc.length < sizeLine ∧ Pv D (i + 1) (upd H4 D (.lst (acc ++ [y]))) else Pv D (i + 1) H3) (hd : ∀ D H, H1 D = none → Pv D xs.length H → Qd D H) :
    ∃ b, V.ref a = .ref b ∧ (((∃ xs, SqL K H1 b xs) ∧ LcI (Itl K b) g tt te vs σ H1 Qd) ∨ ((∃ xs, SqT K H1 b xs) ∧ LcI (Itt K b) g tt te vs σ H1 Qd)) := by
  obtain ⟨b, e, h1, h2⟩ := l_lcL hs0 Pv h0 hl hs hd
  exact ⟨b, e, .inl ⟨h1, h2⟩⟩
theorem l_lcET (hs0 : SqT K H1 a xs) (Pv : Addr → Nat → Hp → Prop) (h0 : ∀ D, H1 D = none → Pv D 0 (upd H1 D (.lst []))) (hl : ∀ D i H, Pv D i H → SqT K H a xs)
    (hs : ∀ D (i : Nat) x H, H1 D = none → xs[i]? = some x → Pv D i H → g x (wipe σ vs) H fun σ2 H2 => wipe σ2 vs = wipe σ vs ∧ tt σ2 H2 fun b H3 =>
      if b = true then te σ2 H3 fun y H4 => ∃ acc, H4 D = some (.lst acc) ∧ acc.length < sizeLine ∧ Pv D (i + 1) (upd H4 D (.lst (acc ++ [y]))) else Pv D (i + 1) H3) (hd : ∀ D H, H1 D = none → Pv D xs.length H → Qd D H) :
    ∃ b, V.ref a = .ref b ∧ (((∃ xs, SqL K H1 b xs) ∧ LcI (Itl K b) g tt te vs σ H1 Qd) ∨ ((∃ xs, SqT K H1 b xs) ∧ LcI (Itt K b) g tt te vs σ H1 Qd)) := by
  obtain ⟨b, e, h1, h2⟩ := l_lcT hs0 Pv h0 hl hs hd
  exact ⟨b, e, .inr ⟨h1, h2⟩⟩
end
/-- any of the two bits -/
theorem two_bits (x y a b : Nat) : decide (V.int (Builtin.bitAnd (Builtin.bitOr ((x : Int) / 2 ^ ((b : Int)).toNat) ((y : Int) / 2 ^ ((a : Int)).toNat)) 1) = V.int 0) = (!x.testBit b && !y.testBit a) := by
  have hx : ((x : Int) / 2 ^ ((b : Int)).toNat) = ((x >>> b : Nat) : Int) := by
    rw [Int.toNat_natCast, Nat.shiftRight_eq_div_pow]
    push_cast
    rfl
  have hy : ((y : Int) / 2 ^ ((a : Int)).toNat) = ((y >>> a : Nat) : Int) := by
    rw [Int.toNat_natCast, Nat.shiftRight_eq_div_pow]
    push_cast
    rfl
  rw [hx, hy, Bits.bitOr_pp (Int.natCast_nonneg _) (Int.natCast_nonneg _), Int.toNat_natCast, Int.toNat_natCast]
  have h1 : Builtin.bitAnd (((x >>> b ||| y >>> a : Nat)) : Int) 1 = (((x >>> b ||| y >>> a) &&& 1 : Nat) : Int) := by
    rw [PyProof.Rows.bitAnd_pp (Int.natCast_nonneg _) (by decide), Int.toNat_natCast]
    rfl
  rw [h1, Bool.eq_iff_iff, decide_eq_true_iff, Bool.and_eq_true]
  have e : (x >>> b ||| y >>> a).testBit 0 = (x.testBit b || y.testBit a) := by
    rw [Nat.testBit_or, Nat.testBit_shiftRight, Nat.testBit_shiftRight]
    rfl
  have e2 : ((x >>> b ||| y >>> a) &&& 1) = if (x >>> b ||| y >>> a).testBit 0 then 1 else 0 := by
    rw [Nat.and_one_is_mod, Nat.testBit_zero]
    rcases Nat.mod_two_eq_zero_or_one (x >>> b ||| y >>> a) with h | h <;> simp [h]
  rw [e2, e]
  cases x.testBit b <;> cases y.testBit a <;> simp
end Dk

/-! a box of draws of any shape; further rules -/
namespace Dk
open PySem PySem.Spec PyProof.Rows L2
/-- what a law's draws change (A), and how it stands -/
structure Box where
  A : Addr → Prop
  B : Hp → Prop
  live : ∀ H, B H → ∀ x, A x → ∃ o, H x = some o
  keep : ∀ H H', B H → (∀ x o, A x → H x = some o → H' x = some o) → B H'
/-- draws were made -/
structure Drw (b : Box) (H H' : Hp) : Prop where
  hh : ∀ x o, ¬ b.A x → H x = some o → H' x = some o
  st : b.B H'
/-- G: what is known for good, H: the heap -/
structure Wb (b : Box) (G H : Hp) : Prop where
  g : Ex G H
  n : ∀ x, b.A x → G x = none
  st : b.B H
section
variable {b : Box} {G H H1 H2 H' : Hp} {p l : Addr} {o : HO}
theorem Box.fresh (b : Box) (s : b.B H) (hp : H p = none) : ¬ b.A p := fun z => by
  obtain ⟨o, e⟩ := b.live _ s _ z
  rw [hp] at e
  cases e
theorem Box.ane (b : Box) {x : Addr} (na : ¬ b.A p) (a : b.A x) : x ≠ p := fun z => na (by rw [← z]; exact a)
theorem Box.up (b : Box) (s : b.B H) (e : Ex H H') : b.B H' := b.keep _ _ s fun x o _ h => e x o h
theorem Drw.refl (s : b.B H) : Drw b H H := ⟨fun _ _ _ h => h, s⟩
theorem Drw.trans (x : Drw b H H1) (y : Drw b H1 H2) : Drw b H H2 := ⟨fun x' o n h => y.hh _ _ n (x.hh _ _ n h), y.st⟩
theorem Drw.ex (s : b.B H) (e : Ex H H') : Drw b H H' := ⟨fun x o _ h => e x o h, b.up s e⟩
theorem Drw.then (x : Drw b H H1) (e : Ex H1 H2) : Drw b H H2 := x.trans (.ex x.st e)
theorem Drw.new (x : Drw b H H1) (hp : H1 p = none) : Drw b H (upd H1 p o) := x.then (Same.new (Same.refl _) hp)
theorem Drw.put (x : Drw b H H1) (hp : H p = none) (na : ¬ b.A p) : Drw b H (upd H1 p o) :=
  ⟨fun y u n e => by rw [upd_ne (ne_of_none e hp)]; exact x.hh y u n e, b.keep _ _ x.st fun y u a e => by rw [upd_ne (b.ane na a)]; exact e⟩
theorem Drw.at (x : Drw b H H1) (na : ¬ b.A p) (e : H p = some o) : H1 p = some o := x.hh _ _ na e
theorem Wb.of (s : b.B H) (e : Ex G H) (n : ∀ x, b.A x → G x = none) : Wb b G H := ⟨e, n, s⟩
theorem Wb.ex (w : Wb b G H) (e : Ex H H') : Wb b G H' := ⟨w.g.trans e, w.n, b.up w.st e⟩
theorem Wb.dr (w : Wb b G H) (d : Drw b H H') : Wb b G H' :=
  ⟨fun x o h => d.hh x o (fun a => by rw [w.n x a] at h; cases h) (w.g x o h), w.n, d.st⟩
theorem Wb.new (w : Wb b G H) (hp : H p = none) : Wb b (upd G p o) (upd H p o) :=
  ⟨fun x u h => by
    by_cases e : x = p
    · subst e; rw [upd_same] at h ⊢; exact h
    · rw [upd_ne e] at h ⊢; exact w.g x u h, fun x a => by
    rw [upd_ne (b.ane (b.fresh w.st hp) a)]; exact w.n x a, b.keep _ _ w.st fun x u a h => by rw [upd_ne (b.ane (b.fresh w.st hp) a)]; exact h⟩
theorem Wb.put (w : Wb b G H) (gp : G p = none) (na : ¬ b.A p) : Wb b G (upd H p o) :=
  ⟨fun x u h => by
    by_cases e : x = p
    · subst e; rw [gp] at h; cases h
    · rw [upd_ne e]; exact w.g x u h, w.n, b.keep _ _ w.st fun x u a h => by rw [upd_ne (b.ane na a)]; exact h⟩
theorem Wb.free (w : Wb b G H) (hp : H p = none) : G p = none := w.g.free hp
/-- the same under more known data -/
theorem Wb.more (w : Wb b G H) (e : Ex H H') : Wb b (fun x => if (G x).isSome then G x else none) H' := by
  have q : (fun x => if (G x).isSome then G x else none) = G := by
    funext x
    cases G x <;> rfl
  rw [q]
  exact w.ex e
end
/-! ### rules -/
section
variable {K : PySem.W.Frag} {σ : L2.St} {H : Hp} {Q : VK} {D : Ends}
theorem r_callK {sp : Sp} {gV : List V → List V → List V} {E : XK} {t tk : TA} (h : t σ H fun vs H1 => tk σ H1 fun zs H2 => sp (gV vs zs) H2 Q E) : tCallK sp gV E t tk σ H Q := h
theorem r_repL {p : Addr} {v : V} {n : Nat} (hp : H p = some (.lst [v])) (hn : n ≤ 1000000) (k : ∀ l, H l = none → Q (.ref l) (upd H l (.lst (List.replicate n v)))) : rRep (.ref p) (.int (n : Nat)) H Q := by
  refine ⟨p, n, [v], rfl, rfl, hp, by omega, by omega, ?_, fun l hl => ?_⟩
  · rw [Int.toNat_natCast, List.length_singleton, sizeLine_eq]
    omega
  · have e : (List.replicate (n : Int).toNat [v]).flatten = List.replicate n v := by
      rw [Int.toNat_natCast]
      clear k hn
      induction n with
      | zero => rfl
      | succ n ih => rw [List.replicate_succ, List.flatten_cons, ih, List.replicate_succ]; rfl
    rw [e]
    exact k l hl
/-- for k in range(x, y), x and y being a and a + n -/
theorem l_R2g {a n : Nat} {x y : Int} {g : TG} {tb : TS} (hx : x = (a : Nat)) (hy : y = ((a + n : Nat) : Int)) (h2 : a + n ≤ 1000000) (Pv : Nat → L2.St → Hp → Prop) (p0 : Pv 0 σ H)
    (ht : ∀ (i : Nat) σ H, i < n → Pv i σ H → g (.int ((a + i : Nat) : Int)) σ H fun σ2 H2 => tb { D with nx := Pv (i + 1), ct := Pv (i + 1), bk := D.nx } σ2 H2) (hd : ∀ σ H, Pv n σ H → D.nx σ H) :
    ∃ i j : Int, [V.int x, V.int y] = [.int i, .int j] ∧ (-(2 ^ 62) ≤ i ∧ i < 2 ^ 62 ∧ -(2 ^ 62) ≤ j ∧ j < 2 ^ 62) ∧ LoopW (Itr i (j - i).toNat) g tb D σ H := by
  subst hx
  exact l_R2 hy h2 Pv p0 ht hd
end
theorem app_len (a b : Str) : (a ++ b).length = a.length + b.length := by
  rw [← cs_len, cs_app, List.length_append, cs_len, cs_len]
/-- x is True, x is False: x of any kind -/
def rIsB : R2 := fun x y H Q => ∃ b, y = .bl b ∧ Q (.bl (decide (x = .bl b))) H
theorem op_isB {X : Cx} : OpR X (compareOp .Is) rIsB := by
  intro pins s σ H x y v u Q I rx ry h
  obtain ⟨b, rfl, q⟩ := h
  cases (show u = Value.bool b from ry)
  cases x with
  | bl a =>
    cases (show v = Value.bool a from rx)
    by_cases e : a = b
    · subst e
      exact wpAny_is_self rfl ⟨.bl true, H, I, rfl, by simpa using q⟩
    · exact wpAny_is_other rfl (fun z => e (Value.bool.inj z)) ⟨.bl false, H, I, rfl, by simpa [e] using q⟩
  | non => cases rx; exact wpAny_is_other rfl (fun z => nomatch z) ⟨.bl false, H, I, rfl, by simpa using q⟩
  | int i => obtain ⟨t, rfl⟩ := rx; exact wpAny_is_other rfl (fun z => nomatch z) ⟨.bl false, H, I, rfl, by simpa using q⟩
  | str i => obtain ⟨t, rfl⟩ := rx; exact wpAny_is_other rfl (fun z => nomatch z) ⟨.bl false, H, I, rfl, by simpa using q⟩
  | byt i => obtain ⟨t, rfl⟩ := rx; exact wpAny_is_other rfl (fun z => nomatch z) ⟨.bl false, H, I, rfl, by simpa using q⟩
  | flt i => obtain ⟨t, rfl⟩ := rx; exact wpAny_is_other rfl (fun z => nomatch z) ⟨.bl false, H, I, rfl, by simpa using q⟩
  | ref i => cases rx; exact wpAny_is_other rfl (fun z => nomatch z) ⟨.bl false, H, I, rfl, by simpa using q⟩
  | ty i => cases rx; exact wpAny_is_other rfl (fun z => nomatch z) ⟨.bl false, H, I, rfl, by simpa using q⟩
theorem r_isB {H : Hp} {Q : VK} {x : V} {b : Bool} (q : Q (.bl (decide (x = .bl b))) H) : rIsB x (.bl b) H Q := ⟨b, rfl, q⟩
theorem r_tyS {K : PySem.W.Frag} {H : Hp} {z : Str} {P : Prop} (k : P) : tyV K "str" (.str z) H ∧ P := ⟨by unfold tyV; simp, k⟩
theorem new1 {H : Hp} {p : Addr} (hp : H p = none) (o : HO) : ∃ H', H' = upd H p o ∧ Ex H H' ∧ H' p = some o := ⟨_, rfl, Same.new (Same.refl H) hp, upd_same⟩
/-! ### the last of one sign -/
theorem subAt1 (z : Str) (c i : Nat) : Builtin.Str.subAt z ⟨#[c]⟩ i = decide ((cs z)[i]? = some c) := by
  rw [StrLaws.subAt_eq, Bool.eq_iff_iff, beq_iff_eq, decide_eq_true_iff]
  show (z.cps.toList.drop i).take 1 = [c] ↔ z.cps.toList[i]? = some c
  rw [← List.head?_drop]
  cases z.cps.toList.drop i with
  | nil => simp
  | cons a l => simp
theorem last_in {s sub : Str} {hi j : Nat} : ∀ (l : List Nat) (st : Option Nat), (forIn l st (StrLaws.lastBody s sub hi)).run = some j → st = some j ∨ j ∈ l
  | [], st, h => .inl (by simpa using h)
  | a :: l, st, h => by
    rw [List.forIn_cons] at h
    unfold StrLaws.lastBody at h
    split at h
    · rcases last_in l (some a) h with z | z
      · exact .inr (by cases z; exact List.mem_cons_self ..)
      · exact .inr (List.mem_cons_of_mem _ z)
    · rcases last_in l st h with z | z
      · exact .inl z
      · exact .inr (List.mem_cons_of_mem _ z)
theorem rfind1 (z : Str) (c a b : Nat) (hb : b ≤ z.length) : (Txt.rfindIn z ⟨#[c]⟩ a b = -1 ∧ ∀ i, a ≤ i → i < b → (cs z)[i]? ≠ some c) ∨ ∃ j : Nat, Txt.rfindIn z ⟨#[c]⟩ a b = j ∧ a ≤ j ∧ j < b ∧ (cs z)[j]? = some c ∧ ∀ i, j < i → i < b → (cs z)[i]? ≠ some c := by
  have e1 : fromIndex z.length (a : Int) = a := by
    unfold fromIndex
    rw [if_neg (by omega)]
    omega
  have e2 : toIndexW z.length (b : Int) = b := by
    unfold toIndexW
    rw [if_neg (by omega)]
    omega
  unfold Txt.rfindIn
  rw [e1, e2, StrLaws.last_eq]
  have key := StrLaws.last_run z ⟨#[c]⟩ b (List.range' a (b + 1 - a)) [] none (fun _ h => nomatch h) (fun _ h => nomatch h) (by first | exact List.pairwise_lt_range' | simpa using List.pairwise_lt_range' (s := a) (n := b + 1 - a))
  have at1 : ∀ i, StrLaws.At z ⟨#[c]⟩ b i ↔ (i < b ∧ (cs z)[i]? = some c) := fun i => by
    unfold StrLaws.At
    rw [subAt1, decide_eq_true_iff]
    show i + 1 ≤ b ∧ _ ↔ _
    exact ⟨fun h => ⟨by omega, h.2⟩, fun h => ⟨by omega, h.2⟩⟩
  have mem : ∀ i, a ≤ i → i < b → i ∈ [] ++ List.range' a (b + 1 - a) := fun i h1 h2 => by simp [List.mem_range'_1]; omega
  cases hr : (forIn (List.range' a (b + 1 - a)) none (StrLaws.lastBody z ⟨#[c]⟩ b)).run with
  | none =>
    rw [hr] at key
    exact .inl ⟨rfl, fun i h1 h2 h3 => key i (mem i h1 h2) ((at1 i).mpr ⟨h2, h3⟩)⟩
  | some j =>
    rw [hr] at key
    obtain ⟨k1, k2⟩ := key
    obtain ⟨h1, h2⟩ := (at1 j).mp k1
    by_cases ha : a ≤ j
    · exact .inr ⟨j, rfl, ha, h1, h2, fun i g1 g2 g3 => k2 i (mem i (by omega) g2) g1 ((at1 i).mpr ⟨g2, g3⟩)⟩
    · exfalso
      rcases last_in _ _ hr with z | hi
      · cases z
      · exact ha (List.mem_range'_1.mp hi).1
end Dk

/-! rows cut into the fewest pieces: the greedy one reaches furthest -/
namespace Q61
section
variable (sp : Nat → Bool) (w : Nat) (bw : Bool)
def Let (a h : Nat) : Prop := a < h ∧ h ≤ a + w ∧ (bw = true → sp (h - 1) = true ∨ (h = a + w ∧ ∀ i, a ≤ i → i < h → sp i = false))
def IsG (b e : Nat) : Prop := (bw = false ∧ e = b + w) ∨ (bw = true ∧ ((∃ j, b ≤ j ∧ j < b + w ∧ sp j = true ∧ (∀ i, j < i → i < b + w → sp i = false) ∧ e = j + 1) ∨ ((∀ i, b ≤ i → i < b + w → sp i = false) ∧ e = b + w)))
variable {sp w bw}
theorem last_sp (b : Nat) : ∀ k, (∃ j, b ≤ j ∧ j < b + k ∧ sp j = true ∧ ∀ i, j < i → i < b + k → sp i = false) ∨ ∀ i, b ≤ i → i < b + k → sp i = false
  | 0 => .inr fun i h1 h2 => absurd h2 (by omega)
  | k + 1 => by
    cases e : sp (b + k) with
    | true => exact .inl ⟨b + k, by omega, by omega, e, fun i h1 h2 => absurd h2 (by omega)⟩
    | false =>
      rcases last_sp b k with ⟨j, h1, h2, h3, h4⟩ | h
      · refine .inl ⟨j, h1, by omega, h3, fun i g1 g2 => ?_⟩
        rcases Nat.lt_or_ge i (b + k) with g | g
        · exact h4 i g1 g
        · rw [show i = b + k by omega]; exact e
      · refine .inr fun i g1 g2 => ?_
        rcases Nat.lt_or_ge i (b + k) with g | g
        · exact h i g1 g
        · rw [show i = b + k by omega]; exact e
theorem isg_ex (b : Nat) : ∃ e, IsG sp w bw b e := by
  cases bw with
  | false => exact ⟨b + w, .inl ⟨rfl, rfl⟩⟩
  | true =>
    rcases last_sp (sp := sp) b w with ⟨j, h1, h2, h3, h4⟩ | h
    · exact ⟨j + 1, .inr ⟨rfl, .inl ⟨j, h1, h2, h3, h4, rfl⟩⟩⟩
    · exact ⟨b + w, .inr ⟨rfl, .inr ⟨h, rfl⟩⟩⟩
theorem isg_let {b e : Nat} (hw : 1 ≤ w) (h : IsG sp w bw b e) : Let sp w bw b e := by
  rcases h with ⟨h1, rfl⟩ | ⟨h1, ⟨j, h2, h3, h4, h5, rfl⟩ | ⟨h2, rfl⟩⟩
  · exact ⟨by omega, Nat.le_refl _, fun z => by rw [h1] at z; cases z⟩
  · exact ⟨by omega, by omega, fun _ => .inl h4⟩
  · exact ⟨by omega, Nat.le_refl _, fun _ => .inr ⟨rfl, h2⟩⟩
theorem isg_max {a b e h : Nat} (hw : 1 ≤ w) (g : IsG sp w bw b e) (ab : a ≤ b) (l : Let sp w bw a h) : h ≤ e := by
  obtain ⟨l1, l2, l3⟩ := l
  rcases g with ⟨h1, rfl⟩ | ⟨h1, ⟨j, h2, h3, h4, h5, rfl⟩ | ⟨h2, rfl⟩⟩
  · omega
  · rcases l3 h1 with l3 | ⟨rfl, l3⟩
    · rcases Nat.lt_or_ge j (h - 1) with z | z
      · rw [h5 _ z (by omega)] at l3; cases l3
      · omega
    · rcases Nat.lt_or_ge j (a + w) with z | z
      · rw [l3 j (by omega) z] at h4; cases h4
      · omega
  · omega
theorem isg_one {b e e' : Nat} (hw : 1 ≤ w) (g : IsG sp w bw b e) (g' : IsG sp w bw b e') : e = e' :=
  Nat.le_antisymm (isg_max hw g' (Nat.le_refl _) (isg_let hw g)) (isg_max hw g (Nat.le_refl _) (isg_let hw g'))
variable (sp w bw)
noncomputable def gr (b : Nat) : Nat := Classical.choose (isg_ex (sp := sp) (w := w) (bw := bw) b)
noncomputable def it : Nat → Nat
  | 0 => 0
  | t + 1 => gr sp w bw (it t)
/-- t pieces, and the rest -/
structure IsT (n t : Nat) : Prop where
  lt : ∀ i, i < t → it sp w bw i + w < n
  le : n ≤ it sp w bw t + w
noncomputable def pcl (n t : Nat) : List (Nat × Nat) := (List.range (t + 1)).map fun k => (it sp w bw k, if k < t then it sp w bw (k + 1) else n)
variable {sp w bw}
theorem gr_is (b : Nat) : IsG sp w bw b (gr sp w bw b) := Classical.choose_spec (isg_ex b)
theorem gr_of {b e : Nat} (hw : 1 ≤ w) (g : IsG sp w bw b e) : gr sp w bw b = e := isg_one hw (gr_is b) g
theorem gr_lt (hw : 1 ≤ w) (b : Nat) : b < gr sp w bw b := (isg_let hw (gr_is b)).1
theorem gr_le (hw : 1 ≤ w) (b : Nat) : gr sp w bw b ≤ b + w := (isg_let hw (gr_is b)).2.1
theorem it_ge (hw : 1 ≤ w) : ∀ t, t ≤ it sp w bw t
  | 0 => Nat.le_refl _
  | t + 1 => by
    have := it_ge hw t
    have := gr_lt (sp := sp) (bw := bw) hw (it sp w bw t)
    show t + 1 ≤ gr sp w bw (it sp w bw t)
    omega
theorem IsT.one {n t u : Nat} (a : IsT sp w bw n t) (b : IsT sp w bw n u) : t = u := by
  rcases Nat.lt_trichotomy t u with h | h | h
  · have := b.lt t h
    have := a.le
    omega
  · exact h
  · have := a.lt u h
    have := b.le
    omega
theorem it_le {n t : Nat} (hw : 1 ≤ w) (h : ∀ i, i < t → it sp w bw i + w < n) : it sp w bw t ≤ n := by
  cases t with
  | zero => exact Nat.zero_le _
  | succ t =>
    have := h t (Nat.lt_succ_self t)
    have := gr_le (sp := sp) (bw := bw) hw (it sp w bw t)
    show gr sp w bw (it sp w bw t) ≤ n
    omega
end
end Q61

/-! set(list of ints), sorted of a set of ints of any size -/
namespace Sx
open PySem PySem.Spec PyProof.Rows L2
/-- a set without members, as it is made -/
abbrev noS (w : World) : Obj := { cls := .type "set", dict := none, data := .set #[] 0 (.fresh 0 0 (!w.params.followText "set-order")) }
section
variable {P : Program} {w : World} {A : Around} {E : Value → Shared → Prop} {s : Shared}
/-- what set.__init__ leaves -/
def Done (w : World) (s : Shared) (ns : List Int) (r : Value) (t : Shared) : Prop :=
  r = .none ∧ ∃ h' tk c, t = { s with heap := h', toks := tk } ∧ SetR w h' s.heap.objs.size (fun j => decide (j ∈ ns)) c ∧ c ≤ ns.length ∧ ∀ b o, s.heap.get? b = some o → h'.get? b = some o
theorem vals_at {items : Array Value} {ns : List Int} (hi : IntsAre items.toList ns) (hz : items.size = ns.length) (i : Nat) (v : Value) (hv : items[i]? = some v) : ∃ k t, ns[i]? = some k ∧ v = .int k t := by
  have il : i < ns.length := by
    rw [← hz]
    exact (Array.getElem?_eq_some_iff.mp hv).1
  have ⟨t, e⟩ := IntsAre.int_at hi i v (by rw [Array.getElem?_toList]; exact hv)
  refine ⟨ns[i], t, List.getElem?_eq_getElem il, e.trans ?_⟩
  rw [List.getD_eq_getElem?_getD, List.getElem?_eq_getElem il]
  rfl
set_option maxHeartbeats 6400000 in
theorem set_init {l : Addr} {items : Array Value} {ns : List Int} (hh : A.handled = none) (hl : s.heap.IsList l items) (hi : IntsAre items.toList ns) (hb : ns.length + 1 < scanBound) :
    codeAny (model P w) A (.call (.builtin "set.__init__") ⟨[.ref s.heap.objs.size, .ref l], []⟩) (wants (Done w s ns) E) { s with heap := s.heap.push (noS w) } := by
  have hz : items.size = ns.length := by
    rw [← IntsAre.length hi, Array.length_toList]
  have hS : (s.heap.push (noS w)).get? s.heap.objs.size = some (noS w) := Heap.get?_push_size _ rfl
  have hT : Shared.TypeIs { s with heap := s.heap.push (noS w) } (.ref s.heap.objs.size) "set" := ⟨_, hS, rfl⟩
  refine codeAny_call_builtin F.called_set.init.plain F.entry_set_init (check_set_init_1 hT ?_)
  obtain ⟨⟨oc, od, da, os⟩, hol, c1, nl, c2⟩ := hl
  cases c1
  cases c2
  have l1 : (s.heap.push (noS w)).get? l = some { cls := .type "list", dict := od, data := .seq items nl, slots := os } := Heap.get?_push_of_some _ hol
  have l2 : (s.heap.push (noS w)).IsList l items := ⟨_, l1, rfl, nl, rfl⟩
  have f1 := F.sub_list_set
  have f2 := F.sub_list_frozenset
  have f3 : (Value.type "list" == Value.type "dict") = false := by decide
  have lt : l < s.heap.objs.size := Heap.lt_size hol
  have sz : (s.heap.push (noS w)).objs.size = s.heap.objs.size + 1 := Heap.size_push ..
  unfold Builtin.«set.__init__» noKeywords Builtin.Frozenset.updateFrom
  generalize hy : pyIter = PI
  wp_walk
  subst hy
  refine wpAny_pyIter_list l2 (wpAny_bind (wpAny_runValue ?_))
  have nl1 : l ≠ (s.heap.push (noS w)).objs.size := by
    rw [sz]
    exact Nat.ne_of_lt (Nat.lt_succ_of_lt lt)
  have nin : s.heap.objs.size ∉ [(s.heap.push (noS w)).objs.size, l] := fun z => by
    rcases List.mem_cons.mp z with z | z
    · rw [sz] at z
      exact absurd z (Nat.ne_of_lt (Nat.lt_succ_self _))
    · exact absurd (List.mem_singleton.mp z) (Nat.ne_of_gt lt)
  refine set_update_ints ((Walks.list (by simp [hh]) _ l nl1 items).toS) s.heap.objs.size nin ns hz hb (vals_at hi hz) (items.size - 0) 0 _ (by omega) (Nat.zero_le _) ⟨⟨_, Heap.get?_push_size _ rfl, rfl, rfl⟩, l2.push _⟩ ⟨0, Nat.le_refl 0, setR_new_at (Heap.get?_push_of_some _ hS)⟩ fun s' c' hm hc' hS' => ?_
  obtain ⟨h', g2, d', tk', o'⟩ := s'
  cases (show g2 = s.gens from hm.gens)
  cases (show d' = s.drawn from hm.drawn)
  cases (show o' = s.os from hm.os)
  rw [hz] at hc'
  refine wpAny_pure ?_
  refine wpAny_pure ⟨rfl, h', tk', c', rfl, hS', hc', fun b o e => ?_⟩
  have lb : b < s.heap.objs.size := Heap.lt_size e
  refine hm.heap b o (fun z => ?_) (Heap.get?_push_of_some _ (Heap.get?_push_of_some _ e))
  rcases List.mem_cons.mp z with z | z
  · exact absurd z (Nat.ne_of_lt lb)
  · have z := List.mem_singleton.mp z
    rw [sz] at z
    exact absurd z (Nat.ne_of_lt (Nat.lt_succ_of_lt lb))
set_option maxHeartbeats 6400000 in
theorem set_list {l : Addr} {items : Array Value} {ns : List Int} {Q : Value → Shared → Prop} (hh : A.handled = none) (hl : s.heap.IsList l items) (hi : IntsAre items.toList ns) (hb : ns.length + 1 < scanBound)
    (h : ∀ (h' : Heap) (tk c : Nat), SetR w h' s.heap.objs.size (fun j => decide (j ∈ ns)) c → c ≤ ns.length → (∀ b o, s.heap.get? b = some o → h'.get? b = some o) → Q (.ref s.heap.objs.size) { s with heap := h', toks := tk }) :
    wpAny (model P w) A (call (.type "set") [.ref l]) Q E s := by
  have ⟨c, tl, hmro⟩ := F.called_set.mro
  have hmade := F.called_set.made
  have hsub := F.called_set.sub
  refine wpAny_call (codeAny_of_tree ?_)
  show wpAny _ _ (callAny (.type "set") _) _ _ _
  refine wpAny_pure ⟨Code.quiet_builtin _ (by decide +kernel), codeAny_builtin F.entry_type_call ?_⟩
  rw [Around.under_plain (weight_type_call_type "set" [.ref l] []) rfl]
  have h1 := F.called_set.notType
  have h2 := F.called_set.canCreate
  have hct := F.typeCall_set_1 (.ref l)
  repeat (any_goals (first | assumption | wp_step))
  refine codeAny_mono (code_set_led1 (.ref l) (E := E) (Q₁ := fun v t => v = .ref s.heap.objs.size ∧ t = { s with heap := s.heap.push (noS w) }) ⟨rfl, rfl⟩) fun r t hr => ?_
  cases r with
  | error e => exact hr
  | ok fl =>
    cases fl with
    | ret v =>
      obtain ⟨rfl, rfl⟩ := hr
      have hT : Shared.TypeIs { s with heap := s.heap.push (noS w) } (.ref s.heap.objs.size) "set" := ⟨_, Heap.get?_push_size _ rfl, rfl⟩
      have hli := F.called_set.init.lookup
      have hbi := F.called_set.init.bind (.ref s.heap.objs.size)
      repeat (any_goals (first | assumption | wp_step))
      refine codeAny_mono (set_init (E := E) (by simpa using hh) hl hi hb) fun r2 t2 hr2 => ?_
      cases r2 with
      | error e => exact hr2
      | ok fl2 =>
        cases fl2 with
        | ret v2 =>
          obtain ⟨rfl, h', tk, c', rfl, x1, x2, x3⟩ := hr2
          repeat (any_goals (first | assumption | wp_step))
          exact h _ _ _ x1 x2 x3
        | _ => exact hr2.elim
    | _ => exact hr.elim
theorem sorted_setU {a : Addr} {S : Int → Bool} {n : Nat} {Q : Value → Shared → Prop} (R : SetR w s.heap a S n) (hh : A.handled = none)
    (hQ : ∀ s' p (out : List Value) (c : Nat) (ns : List Int), (∀ b o, s.heap.get? b = some o → s'.heap.get? b = some o) → s'.gens = s.gens → s'.os = s.os → s.heap.objs.size ≤ p →
      s'.heap.get? p = some (seqObj "list" out.toArray c) → IntsAre out ns → ns.Pairwise (· < ·) → (∀ k, k ∈ ns ↔ S k = true) → ns.length = n → Q (.ref p) s') :
    wpAny (model P w) A (call (.builtin "sorted") [.ref a]) Q E s := by
  obtain ⟨o, es, ep, t, ho, hex, hd, g, nd, hm, hb, hf, hn, hr, hl⟩ := R
  refine Calls.call_function_entry kind_sorted plain_sorted entry_sorted (args_sorted1 _) ?_
  unfold Builtin.«sorted»
  refine wpAny_bind (m := checkCount "sorted" 1 1 _) (wpAny_pure ?_)
  refine wpAny_bind (collect_set (A := A.in1) hh ⟨o, ho, hex.1, hd⟩ hf hb hr hl fun s1 vs k1 hz g1 o1 pm => ?_)
  have lv : vs.length = n := by rw [pm.length_eq, List.length_map, Array.length_toList]; exact hn
  have hv : vs.length ≤ sizeLine := by
    rw [lv, ← hn]
    exact Nat.le_of_lt (Nat.lt_trans hb (by decide))
  have hI : IntsAre vs (vs.map Builtin.Re.reRawOf) := ints_of vs fun v hv => by
    obtain ⟨e, he, q⟩ := List.mem_map.mp (pm.mem_iff.mp hv)
    obtain ⟨k, tk, h1, _⟩ := g e he
    exact ⟨k, tk, by rw [← q]; exact h1⟩
  have pk : (vs.map Builtin.Re.reRawOf).Perm (es.toList.map keyOf) := by
    have q := pm.map Builtin.Re.reRawOf
    rw [List.map_map] at q
    exact q
  refine wpAny_bind (wpAny_newList ?_ hv)
  have hoL : (s1.heap.push (seqObj "list" vs.toArray 0)).get? s1.heap.objs.size = some (seqObj "list" vs.toArray 0) := Heap.get?_push_size _ rfl
  refine wpAny_bind (wpAny_holding (wpAny_call_entry slot_list_sort ⟨_, hoL, rfl⟩ entry_list_sort (SrtO.list_sort_ord SrtO.swo_int hoL hv (fun h2 => SrtO.ints_sortable hI h2) fun out a1 a2 => ⟨_, rfl, ?_⟩) (args_list_sort _)))
  obtain ⟨b1, b2, b3⟩ := SrtO.ints_out hI a1 a2
  obtain ⟨c, hc⟩ := sortedHeap_at (vs := vs) (out := out.toArray) hoL
  have pn : (out.map SrtO.iv).Perm (es.toList.map keyOf) := b2.trans pk
  refine wpAny_pure ⟨_, rfl, hQ _ s1.heap.objs.size out c _ (fun b u e => ?_) g1 o1 hz hc b1 (lt_of_le_nodup _ b3 (pn.nodup_iff.mpr nd)) (fun k => by rw [pn.mem_iff, ← hm k]) ?_⟩
  · have q := k1 b u e
    have lt := Heap.lt_size q
    show (sortedHeap (s1.heap.push (seqObj "list" vs.toArray 0)) s1.heap.objs.size vs out.toArray).get? b = some u
    rw [sortedHeap_old (Nat.ne_of_lt lt) (by rw [size_push']; exact Nat.lt_succ_of_lt lt)]
    exact Heap.get?_push_of_some _ q
  · rw [pn.length_eq, List.length_map, Array.length_toList]; exact hn
end
section
variable {X : Cx}
def rSetL (K : PySem.W.Frag) (w : World) : List V → Hp → VK → Prop := fun xs H Q => ∃ (l : Addr) (ns : List Int), xs = [V.ref l] ∧ SqL K H l (ns.map V.int) ∧ ns.length ≤ 4000 ∧ ∀ p c, c ≤ ns.length → H p = none → Q (.ref p) (upd H p (SetO w p (fun j => decide (j ∈ ns)) c))
theorem cr_setL (hc : X.calm = true) : CallR X (.type "set") (rSetL X.K X.w) := by
  intro pins s σ H vs us Q I r h
  obtain ⟨l, ns, rfl, hs, hb, q⟩ := h
  obtain ⟨its, rv, hl, hz⟩ := I.list hs
  rw [Vals.ref1 r]
  refine set_list (I.ok.hd hc) hl.isList (by simpa using RZ.intsAre_vals rv) (by unfold scanBound; omega) fun h' tk c R hcn kp => ?_
  exact ⟨.ref _, _, I.laid (t' := tk) kp (Nat.le_refl _) (setO_new R), rfl, q _ c hcn (I.hok.fresh (Nat.le_refl _))⟩
def rSortSU (w : World) : List V → Hp → VK → Prop := fun vs H Q => ∃ (a : Addr) (S : Int → Bool) (n : Nat), vs = [V.ref a] ∧ H a = some (SetO w a S n) ∧ n ≤ 4000 ∧
  ∀ (ns : List Int) (p : Addr), ns.Pairwise (· < ·) → (∀ k : Int, k ∈ ns ↔ S k = true) → H p = none → Q (.ref p) (upd H p (.lst (ns.map V.int)))
theorem cr_sortSU (hc : X.calm = true) : CallR X (.builtin "sorted") (rSortSU X.w) := by
  intro pins s σ H vs us Q I r h
  obtain ⟨a, S, n, rfl, ha, hn4, q⟩ := h
  have R := setO_get I ha
  rw [Vals.ref1 r]
  refine sorted_setU R (I.ok.hd hc) fun s' p out c ns k g o hp hg hi hs hm hl => ?_
  have hlen : (ns.map V.int).length ≤ sizeLine := by rw [List.length_map, hl, sizeLine_eq]; omega
  have hn : H p = none := I.hok.fresh hp
  have J : Inv X pins σ (upd H p (.lst (ns.map V.int))) { s with heap := s'.heap, gens := s'.gens, drawn := s'.drawn, toks := s'.toks } :=
    I.call (ch := []) (Un.laid k hp hn) (I.hok.laid k hp ⟨hlen, out, c, vals_of_ints hi, hg⟩) (by rw [g]; exact I.bare) (fun _ z => nomatch z)
  have e : s' = { s with heap := s'.heap, gens := s'.gens, drawn := s'.drawn, toks := s'.toks } := by
    cases s'
    cases s
    cases o
    rfl
  rw [e]
  exact ⟨.ref p, _, J, rfl, q ns p hs hm hn⟩
end
end Sx

namespace Pk
abbrev Iv := Int × Int
def cell (R : List Iv) (x : Int) : Prop := ∃ r ∈ R, r.1 ≤ x ∧ x < r.2
def inn (R : List Iv) (x : Int) : Prop := ∃ r ∈ R, r.1 < x ∧ x < r.2
/-- stretches with signs, one behind another -/
def Chn (R : List Iv) : Prop := (∀ r ∈ R, r.1 < r.2) ∧ R.Pairwise (fun a b => a.2 ≤ b.1)
theorem Chn.tail {r : Iv} {R : List Iv} (h : Chn (r :: R)) : Chn R := ⟨fun x hx => h.1 x (List.mem_cons_of_mem _ hx), (List.pairwise_cons.mp h.2).2⟩
theorem Chn.head {r : Iv} {R : List Iv} (h : Chn (r :: R)) : r.1 < r.2 ∧ ∀ s ∈ R, r.2 ≤ s.1 := ⟨h.1 r (List.mem_cons_self ..), (List.pairwise_cons.mp h.2).1⟩
theorem cell_cons {r : Iv} {R : List Iv} {x : Int} : cell (r :: R) x ↔ (r.1 ≤ x ∧ x < r.2) ∨ cell R x := by
  unfold cell
  constructor
  · rintro ⟨s, hs, h⟩
    rcases List.mem_cons.mp hs with rfl | hs
    · exact .inl h
    · exact .inr ⟨s, hs, h⟩
  · rintro (h | ⟨s, hs, h⟩)
    · exact ⟨r, List.mem_cons_self .., h⟩
    · exact ⟨s, List.mem_cons_of_mem _ hs, h⟩
theorem inn_cons {r : Iv} {R : List Iv} {x : Int} : inn (r :: R) x ↔ (r.1 < x ∧ x < r.2) ∨ inn R x := by
  unfold inn
  constructor
  · rintro ⟨s, hs, h⟩
    rcases List.mem_cons.mp hs with rfl | hs
    · exact .inl h
    · exact .inr ⟨s, hs, h⟩
  · rintro (h | ⟨s, hs, h⟩)
    · exact ⟨r, List.mem_cons_self .., h⟩
    · exact ⟨s, List.mem_cons_of_mem _ hs, h⟩
theorem cell_nil {x : Int} : ¬ cell [] x := fun ⟨_, h, _⟩ => nomatch h
theorem inn_nil {x : Int} : ¬ inn [] x := fun ⟨_, h, _⟩ => nomatch h
theorem Chn.above {r : Iv} {R : List Iv} (h : Chn (r :: R)) {x : Int} : cell R x → r.2 ≤ x := fun ⟨s, hs, hx⟩ => Int.le_trans (h.head.2 s hs) hx.1
theorem Chn.above2 {r : Iv} {R : List Iv} (h : Chn (r :: R)) {x : Int} : inn R x → r.2 < x := fun ⟨s, hs, hx⟩ => Int.lt_of_le_of_lt (h.head.2 s hs) hx.1
theorem cell_empty {R : List Iv} (h : Chn R) (e : ∀ x, ¬ cell R x) : R = [] := by
  cases R with
  | nil => rfl
  | cons r R => exact absurd (cell_cons.mpr (.inl ⟨Int.le_refl _, h.head.1⟩)) (e r.1)
/-- such rows are told by their cells and by the points within -/
theorem Chn.uniq : ∀ {R S : List Iv}, Chn R → Chn S → (∀ x, cell R x ↔ cell S x) → (∀ x, inn R x ↔ inn S x) → R = S
  | [], S, _, hS, hc, _ => (cell_empty hS fun x h => cell_nil ((hc x).mpr h)).symm
  | r :: R, [], hR, _, hc, _ => cell_empty hR fun x h => cell_nil ((hc x).mp h)
  | r :: R, s :: S, hR, hS, hc, hi => by
    have r0 := hR.head.1
    have s0 := hS.head.1
    have e1 : r.1 = s.1 := by
      have h1 := (hc r.1).mp (cell_cons.mpr (.inl ⟨Int.le_refl _, r0⟩))
      have h2 := (hc s.1).mpr (cell_cons.mpr (.inl ⟨Int.le_refl _, s0⟩))
      have g1 : s.1 ≤ r.1 := by
        rcases cell_cons.mp h1 with h | h
        · exact h.1
        · have := hS.above h; omega
      have g2 : r.1 ≤ s.1 := by
        rcases cell_cons.mp h2 with h | h
        · exact h.1
        · have := hR.above h; omega
      omega
    have e2 : r.2 = s.2 := by
      rcases Int.lt_trichotomy r.2 s.2 with c | c | c
      · exfalso
        have := (hi r.2).mpr (inn_cons.mpr (.inl ⟨by omega, c⟩))
        rcases inn_cons.mp this with h | h
        · omega
        · have := hR.above2 h; omega
      · exact c
      · exfalso
        have := (hi s.2).mp (inn_cons.mpr (.inl ⟨by omega, c⟩))
        rcases inn_cons.mp this with h | h
        · omega
        · have := hS.above2 h; omega
    have e : r = s := Prod.ext e1 e2
    subst e
    refine congrArg (r :: ·) (Chn.uniq hR.tail hS.tail (fun x => ?_) fun x => ?_)
    · constructor
      · intro h
        have g := hR.above h
        rcases cell_cons.mp ((hc x).mp (cell_cons.mpr (.inr h))) with z | z
        · omega
        · exact z
      · intro h
        have g := hS.above h
        rcases cell_cons.mp ((hc x).mpr (cell_cons.mpr (.inr h))) with z | z
        · omega
        · exact z
    · constructor
      · intro h
        have g := hR.above2 h
        rcases inn_cons.mp ((hi x).mp (inn_cons.mpr (.inr h))) with z | z
        · omega
        · exact z
      · intro h
        have g := hS.above2 h
        rcases inn_cons.mp ((hi x).mpr (inn_cons.mpr (.inr h))) with z | z
        · omega
        · exact z
/-! ### by neighbouring ends: the law's way -/
/-- J: whether a run goes on at an end; C p q: whether the segment is covered -/
def go (J : Int → Bool) (C : Int → Int → Bool) : List Int → Option Int → List Iv
  | [], _ => []
  | p :: rest, b =>
    let behind := match rest with | [] => false | q :: _ => C p q
    match b with
    | some b0 => if !behind || !J p then (b0, p) :: go J C rest (if behind then some p else none) else go J C rest (some b0)
    | none => go J C rest (if behind then some p else none)
variable {J : Int → Bool} {C : Int → Int → Bool} {U I : Int → Prop}
/-- the ends from here: what is covered between two neighbours, and nothing behind the last -/
inductive Sp (C : Int → Int → Bool) (U I : Int → Prop) : List Int → Prop
  | one {p : Int} : (∀ x, p ≤ x → ¬ U x) → (∀ x, p < x → ¬ I x) → Sp C U I [p]
  | cons {p q : Int} {rest : List Int} : p < q → (∀ x, p ≤ x → x < q → (U x ↔ C p q = true)) → (∀ x, p < x → x < q → (I x ↔ C p q = true)) → Sp C U I (q :: rest) → Sp C U I (p :: q :: rest)
theorem go_ok (hI : ∀ p, I p → U p ∧ U (p - 1)) (hJ : ∀ p, U p → U (p - 1) → (I p ↔ J p = true)) : ∀ {l : List Int} {p : Int}, Sp C U I (p :: l) → ∀ b : Option Int, (∀ b0, b = some b0 → b0 < p ∧ U (p - 1)) → (b = none → ¬ I p) →
    Chn (go J C (p :: l) b) ∧ (∀ r ∈ go J C (p :: l) b, p ≤ r.1 ∨ b = some r.1) ∧ (∀ x, cell (go J C (p :: l) b) x ↔ (∃ b0, b = some b0 ∧ b0 ≤ x ∧ x < p) ∨ (p ≤ x ∧ U x)) ∧
    (∀ x, inn (go J C (p :: l) b) x ↔ (∃ b0, b = some b0 ∧ b0 < x ∧ x < p) ∨ (p ≤ x ∧ I x))
  | [], p, .one hU hI', none, _, hn => by
    have e : go J C [p] none = [] := rfl
    rw [e]
    refine ⟨⟨fun r h => absurd h List.not_mem_nil, List.Pairwise.nil⟩, (fun r h => absurd h List.not_mem_nil), fun x => ⟨fun h => absurd h cell_nil, ?_⟩, fun x => ⟨fun h => absurd h inn_nil, ?_⟩⟩
    · rintro (⟨_, h, _⟩ | ⟨h1, h2⟩)
      · cases h
      · exact absurd h2 (hU x h1)
    · rintro (⟨_, h, _⟩ | ⟨h1, h2⟩)
      · cases h
      · exact absurd (hI x h2).1 (hU x h1)
  | [], p, .one hU hI', some b0, hb, _ => by
    have e : go J C [p] (some b0) = [(b0, p)] := rfl
    rw [e]
    have := (hb b0 rfl).1
    refine ⟨⟨fun r h => by rw [List.mem_singleton.mp h]; exact this, List.pairwise_singleton _ _⟩, (fun r h => .inr (by rw [List.mem_singleton.mp h])), fun x => ?_, fun x => ?_⟩
    · rw [cell_cons]
      constructor
      · rintro (h | h)
        · exact .inl ⟨b0, rfl, h⟩
        · exact absurd h cell_nil
      · rintro (⟨_, h, h2⟩ | ⟨h1, h2⟩)
        · cases h; exact .inl h2
        · exact absurd h2 (hU x h1)
    · rw [inn_cons]
      constructor
      · rintro (h | h)
        · exact .inl ⟨b0, rfl, h⟩
        · exact absurd h inn_nil
      · rintro (⟨_, h, h2⟩ | ⟨h1, h2⟩)
        · cases h; exact .inl h2
        · exact absurd (hI x h2).1 (hU x h1)
  | q :: rest, p, .cons pq hU hI' sp, b, hb, hn => by
    have Up : U p ↔ C p q = true := hU p (Int.le_refl _) pq
    have Uq : U (q - 1) ↔ C p q = true := hU (q - 1) (by omega) (by omega)
    cases c : C p q with
    | false =>
      have nU : ∀ x, p ≤ x → x < q → ¬ U x := fun x h1 h2 h => by have := (hU x h1 h2).mp h; rw [c] at this; cases this
      have nI : ∀ x, p ≤ x → x ≤ q → ¬ I x := fun x h1 h2 h => by
        rcases Int.lt_or_le x q with z | z
        · exact nU x h1 z (hI x h).1
        · exact nU (x - 1) (by omega) (by omega) (hI x h).2
      obtain ⟨k1, k2, k3, k4⟩ := go_ok hI hJ sp none (fun _ h => nomatch h) (fun _ => nI q (by omega) (Int.le_refl _))
      have ce : ∀ x, cell (go J C (q :: rest) none) x ↔ p ≤ x ∧ U x := fun x => by
        rw [k3]
        constructor
        · rintro (⟨_, h, _⟩ | h)
          · cases h
          · exact ⟨by omega, h.2⟩
        · intro h
          refine .inr ⟨?_, h.2⟩
          rcases Int.lt_or_le x q with z | z
          · exact absurd h.2 (nU x h.1 z)
          · exact z
      have ie : ∀ x, inn (go J C (q :: rest) none) x ↔ p ≤ x ∧ I x := fun x => by
        rw [k4]
        constructor
        · rintro (⟨_, h, _⟩ | h)
          · cases h
          · exact ⟨by omega, h.2⟩
        · intro h
          refine .inr ⟨?_, h.2⟩
          rcases Int.lt_or_le x q with z | z
          · exact absurd h.2 (nI x h.1 (by omega))
          · exact z
      cases b with
      | none =>
        have e : go J C (p :: q :: rest) none = go J C (q :: rest) none := by
          show go J C (q :: rest) (if C p q = true then some p else none) = _
          rw [c]; rfl
        rw [e]
        refine ⟨k1, fun r hr => ?_, fun x => ?_, fun x => ?_⟩
        · rcases k2 r hr with z | z
          · exact .inl (by omega)
          · cases z
        · rw [ce]
          exact ⟨.inr, fun h => h.elim (fun ⟨_, z, _⟩ => nomatch z) id⟩
        · rw [ie]
          exact ⟨.inr, fun h => h.elim (fun ⟨_, z, _⟩ => nomatch z) id⟩
      | some b0 =>
        have b1 := (hb b0 rfl).1
        have e : go J C (p :: q :: rest) (some b0) = (b0, p) :: go J C (q :: rest) none := by
          show (if (!C p q || !J p) = true then (b0, p) :: go J C (q :: rest) (if C p q = true then some p else none) else go J C (q :: rest) (some b0)) = _
          rw [c]; rfl
        rw [e]
        refine ⟨⟨fun r hr => ?_, List.pairwise_cons.mpr ⟨fun r hr => ?_, k1.2⟩⟩, fun r hr => ?_, fun x => ?_, fun x => ?_⟩
        · rcases List.mem_cons.mp hr with rfl | hr
          · exact b1
          · exact k1.1 r hr
        · rcases k2 r hr with z | z
          · show p ≤ r.1; omega
          · cases z
        · rcases List.mem_cons.mp hr with rfl | hr
          · exact .inr rfl
          · rcases k2 r hr with z | z
            · exact .inl (by omega)
            · cases z
        · rw [cell_cons, ce]
          exact or_congr ⟨fun h => ⟨b0, rfl, h⟩, fun ⟨_, h, h2⟩ => by cases h; exact h2⟩ Iff.rfl
        · rw [inn_cons, ie]
          exact or_congr ⟨fun h => ⟨b0, rfl, h⟩, fun ⟨_, h, h2⟩ => by cases h; exact h2⟩ Iff.rfl
    | true =>
      have aU : ∀ x, p ≤ x → x < q → U x := fun x h1 h2 => (hU x h1 h2).mpr c
      have aI : ∀ x, p < x → x < q → I x := fun x h1 h2 => (hI' x h1 h2).mpr c
      have hbq : ∀ d : Int, d ≤ p → ∀ b0, some d = some b0 → b0 < q ∧ U (q - 1) := fun d hd b0 h => by
        cases h
        exact ⟨by omega, aU (q - 1) (by omega) (by omega)⟩
      cases b with
      | none =>
        obtain ⟨k1, k2, k3, k4⟩ := go_ok hI hJ sp (some p) (hbq p (Int.le_refl _)) (fun h => nomatch h)
        have e : go J C (p :: q :: rest) none = go J C (q :: rest) (some p) := by
          show go J C (q :: rest) (if C p q = true then some p else none) = _
          rw [c]; rfl
        rw [e]
        refine ⟨k1, fun r hr => ?_, fun x => ?_, fun x => ?_⟩
        · rcases k2 r hr with z | z
          · exact .inl (by omega)
          · have := Option.some.inj z; exact .inl (by omega)
        · rw [k3]
          constructor
          · rintro (⟨_, h, h2⟩ | h)
            · cases h; exact .inr ⟨h2.1, aU x h2.1 h2.2⟩
            · exact .inr ⟨by omega, h.2⟩
          · rintro (⟨_, h, _⟩ | h)
            · cases h
            · rcases Int.lt_or_le x q with z | z
              · exact .inl ⟨p, rfl, h.1, z⟩
              · exact .inr ⟨z, h.2⟩
        · rw [k4]
          constructor
          · rintro (⟨_, h, h2⟩ | h)
            · cases h; exact .inr ⟨by omega, aI x h2.1 h2.2⟩
            · exact .inr ⟨by omega, h.2⟩
          · rintro (⟨_, h, _⟩ | h)
            · cases h
            · rcases Int.lt_or_le x q with z | z
              · refine .inl ⟨p, rfl, ?_, z⟩
                rcases Int.lt_or_le p x with y | y
                · exact y
                · rw [show x = p by omega] at h
                  exact absurd h.2 (hn rfl)
              · exact .inr ⟨z, h.2⟩
      | some b0 =>
        obtain ⟨b1, b2⟩ := hb b0 rfl
        have Ip := hJ p (aU p (Int.le_refl _) pq) b2
        cases j : J p with
        | true =>
          obtain ⟨k1, k2, k3, k4⟩ := go_ok hI hJ sp (some b0) (hbq b0 (by omega)) (fun h => nomatch h)
          have e : go J C (p :: q :: rest) (some b0) = go J C (q :: rest) (some b0) := by
            show (if (!C p q || !J p) = true then (b0, p) :: go J C (q :: rest) (if C p q = true then some p else none) else go J C (q :: rest) (some b0)) = _
            rw [c, j]; rfl
          rw [e]
          have Ip := Ip.mpr j
          refine ⟨k1, fun r hr => ?_, fun x => ?_, fun x => ?_⟩
          · rcases k2 r hr with z | z
            · exact .inl (by omega)
            · exact .inr z
          · rw [k3]
            constructor
            · rintro (⟨_, h, h2⟩ | h)
              · cases h
                rcases Int.lt_or_le x p with z | z
                · exact .inl ⟨b0, rfl, h2.1, z⟩
                · exact .inr ⟨z, aU x z h2.2⟩
              · exact .inr ⟨by omega, h.2⟩
            · rintro (⟨_, h, h2⟩ | h)
              · cases h; exact .inl ⟨b0, rfl, h2.1, by omega⟩
              · rcases Int.lt_or_le x q with z | z
                · exact .inl ⟨b0, rfl, by omega, z⟩
                · exact .inr ⟨z, h.2⟩
          · rw [k4]
            constructor
            · rintro (⟨_, h, h2⟩ | h)
              · cases h
                rcases Int.lt_trichotomy x p with z | z | z
                · exact .inl ⟨b0, rfl, h2.1, z⟩
                · exact .inr ⟨by omega, by rw [z]; exact Ip⟩
                · exact .inr ⟨by omega, aI x z h2.2⟩
              · exact .inr ⟨by omega, h.2⟩
            · rintro (⟨_, h, h2⟩ | h)
              · cases h; exact .inl ⟨b0, rfl, h2.1, by omega⟩
              · rcases Int.lt_or_le x q with z | z
                · exact .inl ⟨b0, rfl, by omega, z⟩
                · exact .inr ⟨z, h.2⟩
        | false =>
          have nIp : ¬ I p := fun z => by have := Ip.mp z; rw [j] at this; cases this
          obtain ⟨k1, k2, k3, k4⟩ := go_ok hI hJ sp (some p) (hbq p (Int.le_refl _)) (fun h => nomatch h)
          have e : go J C (p :: q :: rest) (some b0) = (b0, p) :: go J C (q :: rest) (some p) := by
            show (if (!C p q || !J p) = true then (b0, p) :: go J C (q :: rest) (if C p q = true then some p else none) else go J C (q :: rest) (some b0)) = _
            rw [c, j]; rfl
          rw [e]
          have low : ∀ r ∈ go J C (q :: rest) (some p), p ≤ r.1 := fun r hr => by
            rcases k2 r hr with z | z
            · omega
            · have := Option.some.inj z; omega
          refine ⟨⟨fun r hr => ?_, List.pairwise_cons.mpr ⟨low, k1.2⟩⟩, fun r hr => ?_, fun x => ?_, fun x => ?_⟩
          · rcases List.mem_cons.mp hr with rfl | hr
            · exact b1
            · exact k1.1 r hr
          · rcases List.mem_cons.mp hr with rfl | hr
            · exact .inr rfl
            · exact .inl (low r hr)
          · rw [cell_cons, k3]
            constructor
            · rintro (h | ⟨_, h, h2⟩ | h)
              · exact .inl ⟨b0, rfl, h⟩
              · cases h; exact .inr ⟨h2.1, aU x h2.1 h2.2⟩
              · exact .inr ⟨by omega, h.2⟩
            · rintro (⟨_, h, h2⟩ | h)
              · cases h; exact .inl h2
              · rcases Int.lt_or_le x q with z | z
                · exact .inr (.inl ⟨p, rfl, h.1, z⟩)
                · exact .inr (.inr ⟨z, h.2⟩)
          · rw [inn_cons, k4]
            constructor
            · rintro (h | ⟨_, h, h2⟩ | h)
              · exact .inl ⟨b0, rfl, h⟩
              · cases h; exact .inr ⟨by omega, aI x h2.1 h2.2⟩
              · exact .inr ⟨by omega, h.2⟩
            · rintro (⟨_, h, h2⟩ | h)
              · cases h; exact .inl h2
              · rcases Int.lt_or_le x q with z | z
                · refine .inr (.inl ⟨p, rfl, ?_, z⟩)
                  rcases Int.lt_or_le p x with y | y
                  · exact y
                  · rw [show x = p by omega] at h
                    exact absurd h.2 nIp
                · exact .inr (.inr ⟨z, h.2⟩)
/-! ### by merging in order: joined stretches -/
def mg : Iv → List Iv → List Iv
  | l, [] => [l]
  | l, s :: r => if s.1 ≤ l.2 then mg (l.1, max l.2 s.2) r else l :: mg s r
theorem mg_ok : ∀ (r : List Iv) (l : Iv), l.1 < l.2 → (∀ s ∈ r, s.1 < s.2 ∧ l.1 ≤ s.1) → r.Pairwise (fun a b => a.1 ≤ b.1) →
    Chn (mg l r) ∧ (∀ z ∈ mg l r, l.1 ≤ z.1) ∧ (∀ x, cell (mg l r) x ↔ (l.1 ≤ x ∧ x < l.2) ∨ cell r x) ∧ (∀ x, inn (mg l r) x ↔ cell (mg l r) x ∧ cell (mg l r) (x - 1))
  | [], l, hl, _, _ => by
    have e : mg l [] = [l] := rfl
    rw [e]
    refine ⟨⟨fun z h => by rw [List.mem_singleton.mp h]; exact hl, List.pairwise_singleton _ _⟩, fun z h => by rw [List.mem_singleton.mp h]; exact Int.le_refl _, fun x => cell_cons, fun x => ?_⟩
    rw [inn_cons, cell_cons, cell_cons]
    have a := @inn_nil x
    have b := @cell_nil x
    have c := @cell_nil (x - 1)
    constructor
    · rintro (h | h)
      · exact ⟨.inl (by omega), .inl (by omega)⟩
      · exact absurd h a
    · rintro ⟨h1 | h1, h2 | h2⟩
      · exact .inl (by omega)
      · exact absurd h2 c
      · exact absurd h1 b
      · exact absurd h1 b
  | s :: r, l, hl, hr, hp => by
    obtain ⟨s1, s2⟩ := hr s (List.mem_cons_self ..)
    obtain ⟨p1, p2⟩ := List.pairwise_cons.mp hp
    by_cases c : s.1 ≤ l.2
    · have e : mg l (s :: r) = mg (l.1, max l.2 s.2) r := by
        show (if s.1 ≤ l.2 then _ else _) = _
        rw [if_pos c]
      rw [e]
      obtain ⟨k1, k2, k3, k4⟩ := mg_ok r (l.1, max l.2 s.2) (show l.1 < max l.2 s.2 by omega) (fun z hz => ⟨(hr z (List.mem_cons_of_mem _ hz)).1, (hr z (List.mem_cons_of_mem _ hz)).2⟩) p2
      refine ⟨k1, k2, fun x => ?_, k4⟩
      rw [k3, cell_cons, ← or_assoc]
      refine or_congr ⟨fun h => ?_, fun h => ?_⟩ Iff.rfl
      · have h1 : l.1 ≤ x := h.1
        have h2 : x < max l.2 s.2 := h.2
        rcases Int.lt_or_le x l.2 with z | z
        · exact .inl ⟨h1, z⟩
        · exact .inr (by omega)
      · show l.1 ≤ x ∧ x < max l.2 s.2
        rcases h with h | h <;> omega
    · have e : mg l (s :: r) = l :: mg s r := by
        show (if s.1 ≤ l.2 then _ else _) = _
        rw [if_neg c]
      rw [e]
      obtain ⟨k1, k2, k3, k4⟩ := mg_ok r s s1 (fun z hz => ⟨(hr z (List.mem_cons_of_mem _ hz)).1, p1 z hz⟩) p2
      have lo : ∀ x, cell (mg s r) x → s.1 ≤ x := fun x ⟨z, hz, h⟩ => Int.le_trans (k2 z hz) h.1
      refine ⟨⟨fun z hz => ?_, List.pairwise_cons.mpr ⟨fun z hz => by have := k2 z hz; omega, k1.2⟩⟩, fun z hz => ?_, fun x => ?_, fun x => ?_⟩
      · rcases List.mem_cons.mp hz with rfl | hz
        · exact hl
        · exact k1.1 z hz
      · rcases List.mem_cons.mp hz with rfl | hz
        · exact Int.le_refl _
        · have := k2 z hz; omega
      · rw [cell_cons, k3, cell_cons]
      · rw [inn_cons, cell_cons, cell_cons, k4]
        have a := lo x
        have b := lo (x - 1)
        constructor
        · rintro (h | h)
          · exact ⟨.inl (by omega), .inl (by omega)⟩
          · exact ⟨.inr h.1, .inr h.2⟩
        · rintro ⟨h1 | h1, h2 | h2⟩
          · exact .inl (by omega)
          · have := b h2; omega
          · have := a h1; omega
          · exact .inr ⟨h1, h2⟩
/-! ### by merging in order: settled picks -/
def Jn (l s : Iv) : Prop := s.1 < l.2 ∨ (s.1 = l.2 ∧ (l.1 = l.2 ∨ s.1 = s.2))
instance (l s : Iv) : Decidable (Jn l s) := by unfold Jn; infer_instance
def Sep (a b : Iv) : Prop := a.2 < b.1 ∨ (a.2 = b.1 ∧ a.1 < a.2 ∧ b.1 < b.2)
variable {α : Type}
def sg (f : α → Iv) : Iv × List α → List α → List (Iv × List α)
  | l, [] => [l]
  | l, a :: r => if Jn l.1 (f a) then sg f ((l.1.1, max l.1.2 (f a).2), l.2 ++ [a]) r else l :: sg f (f a, [a]) r
/-- a group with its picks: it is as long as they say -/
structure Grp (f : α → Iv) (g : Iv × List α) : Prop where
  le : g.1.1 ≤ g.1.2
  sub : ∀ a ∈ g.2, g.1.1 ≤ (f a).1 ∧ (f a).2 ≤ g.1.2
  cell : ∀ x, g.1.1 ≤ x → x < g.1.2 → ∃ a ∈ g.2, (f a).1 ≤ x ∧ x < (f a).2
  inn : ∀ x, g.1.1 < x → x < g.1.2 → ∃ a ∈ g.2, (f a).1 < x ∧ x < (f a).2
  ne : g.1.1 = g.1.2 → ∃ a ∈ g.2, f a = g.1
theorem Grp.one {f : α → Iv} {a : α} (h : (f a).1 ≤ (f a).2) : Grp f (f a, [a]) where
  le := h
  sub := fun b hb => by rw [List.mem_singleton.mp hb]; exact ⟨Int.le_refl _, Int.le_refl _⟩
  cell := fun x h1 h2 => ⟨a, List.mem_singleton.mpr rfl, h1, h2⟩
  inn := fun x h1 h2 => ⟨a, List.mem_singleton.mpr rfl, h1, h2⟩
  ne := fun _ => ⟨a, List.mem_singleton.mpr rfl, rfl⟩
theorem Grp.add {f : α → Iv} {l : Iv × List α} {a : α} (g : Grp f l) (h : (f a).1 ≤ (f a).2) (lo : l.1.1 ≤ (f a).1) (j : Jn l.1 (f a)) : Grp f ((l.1.1, max l.1.2 (f a).2), l.2 ++ [a]) where
  le := by have := g.le; show l.1.1 ≤ max l.1.2 (f a).2; omega
  sub := fun b hb => by
    show l.1.1 ≤ (f b).1 ∧ (f b).2 ≤ max l.1.2 (f a).2
    rcases List.mem_append.mp hb with hb | hb
    · have := g.sub b hb; omega
    · rw [List.mem_singleton.mp hb]; omega
  cell := fun x h1 h2 => by
    have h1 : l.1.1 ≤ x := h1
    have h2 : x < max l.1.2 (f a).2 := h2
    unfold Jn at j
    have := g.le
    rcases Int.lt_or_le x l.1.2 with z | z
    · obtain ⟨b, hb, h⟩ := g.cell x h1 z
      exact ⟨b, List.mem_append_left _ hb, h⟩
    · exact ⟨a, List.mem_append_right _ (List.mem_singleton.mpr rfl), by omega⟩
  inn := fun x h1 h2 => by
    have h1 : l.1.1 < x := h1
    have h2 : x < max l.1.2 (f a).2 := h2
    unfold Jn at j
    have := g.le
    rcases Int.lt_or_le x l.1.2 with z | z
    · obtain ⟨b, hb, h⟩ := g.inn x h1 z
      exact ⟨b, List.mem_append_left _ hb, h⟩
    · exact ⟨a, List.mem_append_right _ (List.mem_singleton.mpr rfl), by omega⟩
  ne := fun e => by
    have e : l.1.1 = max l.1.2 (f a).2 := e
    have := g.le
    obtain ⟨b, hb, h⟩ := g.ne (by omega)
    refine ⟨b, List.mem_append_left _ hb, ?_⟩
    rw [h]
    exact Prod.ext rfl (show l.1.2 = max l.1.2 (f a).2 by omega)
def Lx (a b : Iv) : Prop := a.1 < b.1 ∨ (a.1 = b.1 ∧ a.2 ≤ b.2)
theorem Lx.le {a b : Iv} (h : Lx a b) : a.1 ≤ b.1 := by unfold Lx at h; omega
theorem sg_ok (f : α → Iv) : ∀ (r : List α) (l : Iv × List α), Grp f l → (∀ a ∈ r, (f a).1 ≤ (f a).2 ∧ l.1.1 ≤ (f a).1) → r.Pairwise (fun a b => Lx (f a) (f b)) →
    (∀ g ∈ sg f l r, Grp f g ∧ l.1.1 ≤ g.1.1) ∧ (sg f l r).Pairwise (fun a b => Sep a.1 b.1) ∧ (∀ a, (∃ g ∈ sg f l r, a ∈ g.2) ↔ a ∈ l.2 ∨ a ∈ r)
  | [], l, hl, _, _ => by
    have e : sg f l [] = [l] := rfl
    rw [e]
    refine ⟨fun g h => by rw [List.mem_singleton.mp h]; exact ⟨hl, Int.le_refl _⟩, List.pairwise_singleton _ _, fun a => ⟨fun ⟨g, hg, h⟩ => .inl (by rw [← List.mem_singleton.mp hg]; exact h), ?_⟩⟩
    rintro (h | h)
    · exact ⟨l, List.mem_singleton.mpr rfl, h⟩
    · cases h
  | a :: r, l, hl, hr, hp => by
    obtain ⟨a1, a2⟩ := hr a (List.mem_cons_self ..)
    obtain ⟨p1, p2⟩ := List.pairwise_cons.mp hp
    have lle := hl.le
    by_cases c : Jn l.1 (f a)
    · have e : sg f l (a :: r) = sg f ((l.1.1, max l.1.2 (f a).2), l.2 ++ [a]) r := by
        show (if Jn l.1 (f a) then _ else _) = _
        rw [if_pos c]
      rw [e]
      obtain ⟨k1, k2, k3⟩ := sg_ok f r ((l.1.1, max l.1.2 (f a).2), l.2 ++ [a]) (hl.add a1 a2 c) (fun z hz => ⟨(hr z (List.mem_cons_of_mem _ hz)).1, (hr z (List.mem_cons_of_mem _ hz)).2⟩) p2
      refine ⟨k1, k2, fun b => ?_⟩
      rw [k3]
      show b ∈ l.2 ++ [a] ∨ b ∈ r ↔ _
      rw [List.mem_append, List.mem_singleton, List.mem_cons, or_assoc]
    · have e : sg f l (a :: r) = l :: sg f (f a, [a]) r := by
        show (if Jn l.1 (f a) then _ else _) = _
        rw [if_neg c]
      rw [e]
      obtain ⟨k1, k2, k3⟩ := sg_ok f r (f a, [a]) (Grp.one a1) (fun z hz => ⟨(hr z (List.mem_cons_of_mem _ hz)).1, (p1 z hz).le⟩) p2
      have lo : ∀ g ∈ sg f (f a, [a]) r, (f a).1 ≤ g.1.1 := fun g hg => (k1 g hg).2
      unfold Jn at c
      refine ⟨fun g hg => ?_, List.pairwise_cons.mpr ⟨fun g hg => ?_, k2⟩, fun b => ?_⟩
      · rcases List.mem_cons.mp hg with rfl | hg
        · exact ⟨hl, Int.le_refl _⟩
        · exact ⟨(k1 g hg).1, by have := lo g hg; omega⟩
      · have g1 := lo g hg
        have gg := (k1 g hg).1
        have gle := gg.le
        unfold Sep
        rcases Int.lt_or_le l.1.2 g.1.1 with z | z
        · exact .inl z
        · refine .inr ⟨by omega, by omega, ?_⟩
          rcases Int.lt_or_le g.1.1 g.1.2 with y | y
          · exact y
          · exfalso
            obtain ⟨b, hb, eb⟩ := gg.ne (by omega)
            rcases (k3 b).mp ⟨g, hg, hb⟩ with h | h
            · have h : b = a := List.mem_singleton.mp h
              rw [h] at eb
              rw [← eb] at y z
              omega
            · have := p1 b h
              unfold Lx at this
              rw [eb] at this
              omega
      · constructor
        · rintro ⟨g, hg, h⟩
          rcases List.mem_cons.mp hg with rfl | hg
          · exact .inl h
          · rcases (k3 b).mp ⟨g, hg, h⟩ with z | z
            · exact .inr (by rw [List.mem_singleton.mp z]; exact List.mem_cons_self ..)
            · exact .inr (List.mem_cons_of_mem _ z)
        · rintro (h | h)
          · exact ⟨l, List.mem_cons_self .., h⟩
          · obtain ⟨g, hg, z⟩ := (k3 b).mpr (by
              rcases List.mem_cons.mp h with rfl | h
              · exact .inl (List.mem_singleton.mpr rfl)
              · exact .inr h)
            exact ⟨g, List.mem_cons_of_mem _ hg, z⟩
/-- what is told of the groups of picks in order -/
structure Gs (f : α → Iv) (T : List α) (R : List (Iv × List α)) : Prop where
  grp : ∀ g ∈ R, Grp f g
  sep : R.Pairwise (fun a b => Sep a.1 b.1)
  mem : ∀ a, (∃ g ∈ R, a ∈ g.2) ↔ a ∈ T
theorem Gs.of {f : α → Iv} {a : α} {r : List α} (h1 : ∀ b ∈ a :: r, (f b).1 ≤ (f b).2) (h2 : (a :: r).Pairwise (fun a b => Lx (f a) (f b))) : Gs f (a :: r) (sg f (f a, [a]) r) := by
  obtain ⟨p1, p2⟩ := List.pairwise_cons.mp h2
  obtain ⟨k1, k2, k3⟩ := sg_ok f r (f a, [a]) (Grp.one (h1 a (List.mem_cons_self ..))) (fun b hb => ⟨h1 b (List.mem_cons_of_mem _ hb), (p1 b hb).le⟩) p2
  refine ⟨fun g hg => (k1 g hg).1, k2, fun b => ?_⟩
  rw [k3, List.mem_singleton, List.mem_cons]
section
variable {f : α → Iv} {T : List α} {R : List (Iv × List α)} (h : Gs f T R)
include h
theorem Gs.eq {g g' : Iv × List α} (hg : g ∈ R) (hg' : g' ∈ R) {x : Int} (h1 : g.1.1 ≤ x) (h2 : x < g.1.2) (h3 : g'.1.1 ≤ x) (h4 : x < g'.1.2) : g = g' := by
  obtain ⟨i, hi, ei⟩ := List.getElem_of_mem hg
  obtain ⟨j, hj, ej⟩ := List.getElem_of_mem hg'
  have p := List.pairwise_iff_getElem.mp h.sep
  rcases Nat.lt_trichotomy i j with c | c | c
  · have := p i j hi hj c
    rw [ei, ej] at this
    unfold Sep at this
    omega
  · subst c
    rw [← ei, ← ej]
  · have := p j i hj hi c
    rw [ei, ej] at this
    unfold Sep at this
    omega
/-- the groups with signs -/
theorem Gs.chn : Chn ((R.map Prod.fst).filter fun r => decide (r.1 < r.2)) := by
  refine ⟨fun r hr => of_decide_eq_true (List.mem_filter.mp hr).2, List.Pairwise.filter _ (List.pairwise_map.mpr (h.sep.imp fun {a b} z => ?_))⟩
  unfold Sep at z
  omega
theorem Gs.cells (x : Int) : cell ((R.map Prod.fst).filter fun r => decide (r.1 < r.2)) x ↔ cell (T.map f) x := by
  constructor
  · rintro ⟨r, hr, h1, h2⟩
    obtain ⟨g, hg, rfl⟩ := List.mem_map.mp (List.mem_filter.mp hr).1
    obtain ⟨a, ha, z⟩ := (h.grp g hg).cell x h1 h2
    exact ⟨f a, List.mem_map.mpr ⟨a, (h.mem a).mp ⟨g, hg, ha⟩, rfl⟩, z⟩
  · rintro ⟨r, hr, h1, h2⟩
    obtain ⟨a, ha, rfl⟩ := List.mem_map.mp hr
    obtain ⟨g, hg, hag⟩ := (h.mem a).mpr ha
    have := (h.grp g hg).sub a hag
    exact ⟨g.1, List.mem_filter.mpr ⟨List.mem_map.mpr ⟨g, hg, rfl⟩, decide_eq_true (by omega)⟩, by omega, by omega⟩
theorem Gs.inns (x : Int) : inn ((R.map Prod.fst).filter fun r => decide (r.1 < r.2)) x ↔ inn (T.map f) x := by
  constructor
  · rintro ⟨r, hr, h1, h2⟩
    obtain ⟨g, hg, rfl⟩ := List.mem_map.mp (List.mem_filter.mp hr).1
    obtain ⟨a, ha, z⟩ := (h.grp g hg).inn x h1 h2
    exact ⟨f a, List.mem_map.mpr ⟨a, (h.mem a).mp ⟨g, hg, ha⟩, rfl⟩, z⟩
  · rintro ⟨r, hr, h1, h2⟩
    obtain ⟨a, ha, rfl⟩ := List.mem_map.mp hr
    obtain ⟨g, hg, hag⟩ := (h.mem a).mpr ha
    have := (h.grp g hg).sub a hag
    exact ⟨g.1, List.mem_filter.mpr ⟨List.mem_map.mpr ⟨g, hg, rfl⟩, decide_eq_true (by omega)⟩, by omega, by omega⟩
/-- the carets that stay -/
theorem Gs.carets (le : ∀ a ∈ T, (f a).1 ≤ (f a).2) (p : Int) : (p, p) ∈ R.map Prod.fst ↔ (∃ a ∈ T, f a = (p, p)) ∧ ∀ a ∈ T, (f a).1 < (f a).2 → ¬ ((f a).1 ≤ p ∧ p ≤ (f a).2) := by
  constructor
  · intro hp
    obtain ⟨g, hg, e⟩ := List.mem_map.mp hp
    have e1 : g.1.1 = p := by rw [e]
    have e2 : g.1.2 = p := by rw [e]
    refine ⟨?_, fun a ha lt z => ?_⟩
    · obtain ⟨a, ha, ea⟩ := (h.grp g hg).ne (by omega)
      exact ⟨a, (h.mem a).mp ⟨g, hg, ha⟩, by rw [ea, e]⟩
    · obtain ⟨g', hg', ha'⟩ := (h.mem a).mpr ha
      have s := (h.grp g' hg').sub a ha'
      obtain ⟨i, hi, ei⟩ := List.getElem_of_mem hg
      obtain ⟨j, hj, ej⟩ := List.getElem_of_mem hg'
      have pw := List.pairwise_iff_getElem.mp h.sep
      rcases Nat.lt_trichotomy i j with c | c | c
      · have := pw i j hi hj c
        rw [ei, ej] at this
        unfold Sep at this
        omega
      · subst c
        have : g = g' := by rw [← ei, ← ej]
        subst this
        omega
      · have := pw j i hj hi c
        rw [ei, ej] at this
        unfold Sep at this
        omega
  · rintro ⟨⟨a, ha, ea⟩, nt⟩
    obtain ⟨g, hg, hag⟩ := (h.mem a).mpr ha
    have s := (h.grp g hg).sub a hag
    rw [ea] at s
    have gle := (h.grp g hg).le
    rcases Int.lt_or_le g.1.1 g.1.2 with c | c
    · exfalso
      rcases Int.lt_or_le p g.1.2 with z | z
      · obtain ⟨b, hb, z1, z2⟩ := (h.grp g hg).cell p s.1 z
        exact nt b ((h.mem b).mp ⟨g, hg, hb⟩) (by omega) ⟨z1, by omega⟩
      · obtain ⟨b, hb, z1, z2⟩ := (h.grp g hg).cell (p - 1) (by have := s.2; omega) (by have := s.2; omega)
        exact nt b ((h.mem b).mp ⟨g, hg, hb⟩) (by omega) ⟨by omega, by omega⟩
    · refine List.mem_map.mpr ⟨g, hg, Prod.ext ?_ ?_⟩
      · have a1 := s.1
        have a2 := s.2
        show g.1.1 = p
        have a1 : g.1.1 ≤ p := a1
        have a2 : p ≤ g.1.2 := a2
        omega
      · have a1 : g.1.1 ≤ p := s.1
        have a2 : p ≤ g.1.2 := s.2
        show g.1.2 = p
        omega
/-- whose picks are those of a group: all picks with signs that lie within it -/
theorem Gs.whose {g : Iv × List α} (hg : g ∈ R) {a : α} (ha : a ∈ T) (lt : (f a).1 < (f a).2) : a ∈ g.2 ↔ g.1.1 ≤ (f a).1 ∧ (f a).2 ≤ g.1.2 ∧ a ∈ g.2 := ⟨fun z => ⟨((h.grp g hg).sub a z).1, ((h.grp g hg).sub a z).2, z⟩, fun z => z.2.2⟩
theorem Gs.within {g : Iv × List α} (hg : g ∈ R) {a : α} (ha : a ∈ T) (lt : (f a).1 < (f a).2) (w : g.1.1 ≤ (f a).1 ∧ (f a).2 ≤ g.1.2) : a ∈ g.2 := by
  obtain ⟨g', hg', hag⟩ := (h.mem a).mpr ha
  have s := (h.grp g' hg').sub a hag
  have := h.eq hg hg' (x := (f a).1) (by omega) (by omega) (by omega) (by omega)
  rw [this]
  exact hag
end
/-! ### the ends of stretches, and the law's runs -/
def cov (st : List Iv) (p q : Int) : Bool := st.any fun s => decide (s.1 ≤ p) && decide (q ≤ s.2)
def wth (st : List Iv) (p : Int) : Bool := st.any fun s => decide (s.1 < p) && decide (p < s.2)
theorem cov_iff {st : List Iv} {p q : Int} : cov st p q = true ↔ ∃ s ∈ st, s.1 ≤ p ∧ q ≤ s.2 := by
  unfold cov
  rw [List.any_eq_true]
  refine exists_congr fun s => and_congr_right fun _ => ?_
  rw [Bool.and_eq_true, decide_eq_true_iff, decide_eq_true_iff]
theorem wth_iff {st : List Iv} {p : Int} : wth st p = true ↔ inn st p := by
  unfold wth inn
  rw [List.any_eq_true]
  refine exists_congr fun s => and_congr_right fun _ => ?_
  rw [Bool.and_eq_true, decide_eq_true_iff, decide_eq_true_iff]
section
variable {st : List Iv}
theorem seg_cell {p q : Int} (h : ∀ s ∈ st, (s.1 ≤ p ∨ q ≤ s.1) ∧ (s.2 ≤ p ∨ q ≤ s.2)) {x : Int} (h1 : p ≤ x) (h2 : x < q) : cell st x ↔ cov st p q = true := by
  rw [cov_iff]
  constructor
  · rintro ⟨s, hs, z⟩
    have := h s hs
    exact ⟨s, hs, by omega⟩
  · rintro ⟨s, hs, z⟩
    exact ⟨s, hs, by omega⟩
theorem seg_inn {p q : Int} (h : ∀ s ∈ st, (s.1 ≤ p ∨ q ≤ s.1) ∧ (s.2 ≤ p ∨ q ≤ s.2)) {x : Int} (h1 : p < x) (h2 : x < q) : inn st x ↔ cov st p q = true := by
  rw [cov_iff]
  constructor
  · rintro ⟨s, hs, z⟩
    have := h s hs
    exact ⟨s, hs, by omega⟩
  · rintro ⟨s, hs, z⟩
    exact ⟨s, hs, by omega⟩
theorem ends_sp {I : Int → Prop} (hI : ∀ p, I p → cell st p ∧ cell st (p - 1)) (hS : ∀ p q, (∀ s ∈ st, (s.1 ≤ p ∨ q ≤ s.1) ∧ (s.2 ≤ p ∨ q ≤ s.2)) → ∀ x, p < x → x < q → (I x ↔ cov st p q = true)) :
    ∀ (rest : List Int) (p : Int), (p :: rest).Pairwise (· < ·) → (∀ s ∈ st, (s.1 ≤ p ∨ s.1 ∈ rest) ∧ (s.2 ≤ p ∨ s.2 ∈ rest)) → Sp (cov st) (cell st) I (p :: rest)
  | [], p, _, h => by
    have no : ∀ x, p ≤ x → ¬ cell st x := fun x hx ⟨s, hs, z⟩ => by
      rcases (h s hs).2 with y | y
      · omega
      · cases y
    exact .one no fun x hx z => no x (by omega) (hI x z).1
  | q :: rest, p, pw, h => by
    obtain ⟨p1, p2⟩ := List.pairwise_cons.mp pw
    have pq := p1 q (List.mem_cons_self ..)
    obtain ⟨q1, _⟩ := List.pairwise_cons.mp p2
    have up : ∀ v, v ∈ q :: rest → q ≤ v := fun v hv => by
      rcases List.mem_cons.mp hv with rfl | hv
      · exact Int.le_refl _
      · have := q1 v hv; omega
    have gap : ∀ s ∈ st, (s.1 ≤ p ∨ q ≤ s.1) ∧ (s.2 ≤ p ∨ q ≤ s.2) := fun s hs => ⟨(h s hs).1.imp id (up _), (h s hs).2.imp id (up _)⟩
    refine .cons pq (fun x h1 h2 => seg_cell gap h1 h2) (hS p q gap) (ends_sp hI hS rest q p2 fun s hs => ?_)
    have k : ∀ v, v ≤ p ∨ v ∈ q :: rest → v ≤ q ∨ v ∈ rest := fun v hv => by
      rcases hv with z | z
      · exact .inl (by omega)
      · rcases List.mem_cons.mp z with rfl | z
        · exact .inl (Int.le_refl _)
        · exact .inr z
    exact ⟨k _ (h s hs).1, k _ (h s hs).2⟩
/-- the law's runs of stretches with signs: parted or not -/
def runs (st : List Iv) (parted : Bool) (ends : List Int) : List Iv := go (fun p => !parted || wth st p) (cov st) ends none
/-- a row of ends: in order, each once, all of them and nothing else -/
structure Ends (st : List Iv) (l : List Int) : Prop where
  pw : l.Pairwise (· < ·)
  mem : ∀ v, v ∈ l ↔ ∃ s ∈ st, v = s.1 ∨ v = s.2
theorem runs_parted (ne : ∀ s ∈ st, s.1 < s.2) {l : List Int} (h : Ends st l) : Chn (runs st true l) ∧ (∀ x, cell (runs st true l) x ↔ cell st x) ∧ ∀ x, inn (runs st true l) x ↔ inn st x := by
  have cI : ∀ p, inn st p → cell st p ∧ cell st (p - 1) := fun p ⟨s, hs, z⟩ => ⟨⟨s, hs, by omega⟩, ⟨s, hs, by omega⟩⟩
  cases l with
  | nil =>
    have e : st = [] := by
      cases st with
      | nil => rfl
      | cons s st =>
        have := (h.mem s.1).mpr ⟨s, List.mem_cons_self .., .inl rfl⟩
        cases this
    rw [e]
    exact ⟨⟨fun r hr => absurd hr List.not_mem_nil, List.Pairwise.nil⟩, fun x => Iff.rfl, fun x => Iff.rfl⟩
  | cons p rest =>
    have low : ∀ s ∈ st, p ≤ s.1 := fun s hs => by
      rcases List.mem_cons.mp ((h.mem s.1).mpr ⟨s, hs, .inl rfl⟩) with z | z
      · omega
      · have := (List.pairwise_cons.mp h.pw).1 _ z; omega
    have sp := ends_sp cI (fun p q g x h1 h2 => seg_inn g h1 h2) rest p h.pw fun s hs => by
      have k : ∀ v, v ∈ p :: rest → v ≤ p ∨ v ∈ rest := fun v hv => by
        rcases List.mem_cons.mp hv with rfl | z
        · exact .inl (Int.le_refl _)
        · exact .inr z
      exact ⟨k _ ((h.mem _).mpr ⟨s, hs, .inl rfl⟩), k _ ((h.mem _).mpr ⟨s, hs, .inr rfl⟩)⟩
    obtain ⟨k1, _, k3, k4⟩ := go_ok (J := fun p => !true || wth st p) cI (fun q _ _ => by
      show inn st q ↔ (!true || wth st q) = true
      rw [← wth_iff]
      simp) sp none (fun _ z => nomatch z) (fun _ ⟨s, hs, z⟩ => by have := low s hs; omega)
    refine ⟨k1, fun x => ?_, fun x => ?_⟩
    · rw [show cell (runs st true (p :: rest)) x ↔ _ from k3 x]
      constructor
      · rintro (⟨_, z, _⟩ | z)
        · cases z
        · exact z.2
      · intro z
        obtain ⟨s, hs, y⟩ := id z
        exact .inr ⟨by have := low s hs; omega, z⟩
    · rw [show inn (runs st true (p :: rest)) x ↔ _ from k4 x]
      constructor
      · rintro (⟨_, z, _⟩ | z)
        · cases z
        · exact z.2
      · intro z
        obtain ⟨s, hs, y⟩ := id z
        exact .inr ⟨by have := low s hs; omega, z⟩
theorem runs_whole (ne : ∀ s ∈ st, s.1 < s.2) {l : List Int} (h : Ends st l) : Chn (runs st false l) ∧ (∀ x, cell (runs st false l) x ↔ cell st x) ∧ ∀ x, inn (runs st false l) x ↔ cell st x ∧ cell st (x - 1) := by
  have cI : ∀ p, (cell st p ∧ cell st (p - 1)) → cell st p ∧ cell st (p - 1) := fun p z => z
  cases l with
  | nil =>
    have e : st = [] := by
      cases st with
      | nil => rfl
      | cons s st =>
        have := (h.mem s.1).mpr ⟨s, List.mem_cons_self .., .inl rfl⟩
        cases this
    rw [e]
    exact ⟨⟨fun r hr => absurd hr List.not_mem_nil, List.Pairwise.nil⟩, fun x => Iff.rfl, fun x => ⟨fun z => absurd z inn_nil, fun z => absurd z.1 cell_nil⟩⟩
  | cons p rest =>
    have low : ∀ s ∈ st, p ≤ s.1 := fun s hs => by
      rcases List.mem_cons.mp ((h.mem s.1).mpr ⟨s, hs, .inl rfl⟩) with z | z
      · omega
      · have := (List.pairwise_cons.mp h.pw).1 _ z; omega
    have sp := ends_sp (I := fun x => cell st x ∧ cell st (x - 1)) cI (fun p q g x h1 h2 => by
      rw [seg_cell g (by omega : p ≤ x) h2, seg_cell g (by omega : p ≤ x - 1) (by omega)]
      exact ⟨fun z => z.1, fun z => ⟨z, z⟩⟩) rest p h.pw fun s hs => by
      have k : ∀ v, v ∈ p :: rest → v ≤ p ∨ v ∈ rest := fun v hv => by
        rcases List.mem_cons.mp hv with rfl | z
        · exact .inl (Int.le_refl _)
        · exact .inr z
      exact ⟨k _ ((h.mem _).mpr ⟨s, hs, .inl rfl⟩), k _ ((h.mem _).mpr ⟨s, hs, .inr rfl⟩)⟩
    obtain ⟨k1, _, k3, k4⟩ := go_ok (J := fun p => !false || wth st p) (I := fun x => cell st x ∧ cell st (x - 1)) cI (fun q a b => ⟨fun _ => rfl, fun _ => ⟨a, b⟩⟩) sp none (fun _ z => nomatch z) (fun _ ⟨_, s, hs, z⟩ => by have := low s hs; omega)
    refine ⟨k1, fun x => ?_, fun x => ?_⟩
    · rw [show cell (runs st false (p :: rest)) x ↔ _ from k3 x]
      constructor
      · rintro (⟨_, z, _⟩ | z)
        · cases z
        · exact z.2
      · intro z
        obtain ⟨s, hs, y⟩ := id z
        exact .inr ⟨by have := low s hs; omega, z⟩
    · rw [show inn (runs st false (p :: rest)) x ↔ _ from k4 x]
      constructor
      · rintro (⟨_, z, _⟩ | z)
        · cases z
        · exact z.2
      · intro z
        obtain ⟨s, hs, y⟩ := id z.2
        exact .inr ⟨by have := low s hs; omega, z⟩
/-- joined stretches are the law's whole runs -/
theorem mg_runs {s : Iv} {r : List Iv} (ne : ∀ z ∈ s :: r, z.1 < z.2) (pw : (s :: r).Pairwise (fun a b => a.1 ≤ b.1)) {st : List Iv} (same : ∀ z, z ∈ st ↔ z ∈ s :: r) {l : List Int} (h : Ends st l) : mg s r = runs st false l := by
  obtain ⟨p1, p2⟩ := List.pairwise_cons.mp pw
  obtain ⟨a1, _, a3, a4⟩ := mg_ok r s (ne s (List.mem_cons_self ..)) (fun z hz => ⟨ne z (List.mem_cons_of_mem _ hz), p1 z hz⟩) p2
  obtain ⟨b1, b2, b3⟩ := runs_whole (fun z hz => ne z ((same z).mp hz)) h
  have sc : ∀ x, cell (mg s r) x ↔ cell st x := fun x => by
    rw [a3, ← cell_cons]
    unfold cell
    exact exists_congr fun z => and_congr_left fun _ => (same z).symm
  refine a1.uniq b1 (fun x => by rw [sc, b2]) fun x => ?_
  rw [a4, b3, sc, sc]
/-- settled picks with signs are the law's parted runs -/
theorem Gs.runs {α : Type} {f : α → Iv} {T : List α} {R : List (Iv × List α)} (g : Gs f T R) {st : List Iv} (same : ∀ z, z ∈ st ↔ z.1 < z.2 ∧ ∃ a ∈ T, f a = z) {l : List Int} (h : Ends st l) : ((R.map Prod.fst).filter fun r => decide (r.1 < r.2)) = Pk.runs st true l := by
  obtain ⟨b1, b2, b3⟩ := runs_parted (fun z hz => ((same z).mp hz).1) h
  refine g.chn.uniq b1 (fun x => ?_) fun x => ?_
  · rw [g.cells, b2]
    constructor
    · rintro ⟨z, hz, y⟩
      obtain ⟨a, ha, rfl⟩ := List.mem_map.mp hz
      exact ⟨f a, (same _).mpr ⟨by omega, a, ha, rfl⟩, y⟩
    · rintro ⟨z, hz, y⟩
      obtain ⟨_, a, ha, rfl⟩ := (same z).mp hz
      exact ⟨f a, List.mem_map.mpr ⟨a, ha, rfl⟩, y⟩
  · rw [g.inns, b3]
    constructor
    · rintro ⟨z, hz, y⟩
      obtain ⟨a, ha, rfl⟩ := List.mem_map.mp hz
      exact ⟨f a, (same _).mpr ⟨by omega, a, ha, rfl⟩, y⟩
    · rintro ⟨z, hz, y⟩
      obtain ⟨_, a, ha, rfl⟩ := (same z).mp hz
      exact ⟨f a, List.mem_map.mpr ⟨a, ha, rfl⟩, y⟩
end
/-! ### in order, each once -/
def SL (a b : Iv) : Prop := a.1 < b.1 ∨ (a.1 = b.1 ∧ a.2 < b.2)
theorem SL.irr {a : Iv} (h : SL a a) : False := by unfold SL at h; omega
theorem SL.asym {a b : Iv} (h : SL a b) (g : SL b a) : False := by unfold SL at h g; omega
theorem srt_uniq {β : Type} {k : β → Iv} : ∀ {R S : List β}, R.Pairwise (fun a b => SL (k a) (k b)) → S.Pairwise (fun a b => SL (k a) (k b)) → (∀ x, x ∈ R ↔ x ∈ S) → R = S
  | [], S, _, _, h => by
    cases S with
    | nil => rfl
    | cons s S => exact absurd ((h s).mpr (List.mem_cons_self ..)) List.not_mem_nil
  | r :: R, [], _, _, h => absurd ((h r).mp (List.mem_cons_self ..)) List.not_mem_nil
  | r :: R, s :: S, hR, hS, h => by
    obtain ⟨r1, r2⟩ := List.pairwise_cons.mp hR
    obtain ⟨s1, s2⟩ := List.pairwise_cons.mp hS
    have e : r = s := by
      rcases List.mem_cons.mp ((h r).mp (List.mem_cons_self ..)) with z | z
      · exact z
      · rcases List.mem_cons.mp ((h s).mpr (List.mem_cons_self ..)) with y | y
        · exact y.symm
        · exact (SL.asym (s1 r z) (r1 s y)).elim
    subst e
    refine congrArg (r :: ·) (srt_uniq r2 s2 fun x => ⟨fun z => ?_, fun z => ?_⟩)
    · rcases List.mem_cons.mp ((h x).mp (List.mem_cons_of_mem _ z)) with y | y
      · exact (SL.irr (by have := r1 x z; rw [y] at this; exact this)).elim
      · exact y
    · rcases List.mem_cons.mp ((h x).mpr (List.mem_cons_of_mem _ z)) with y | y
      · exact (SL.irr (by have := s1 x z; rw [y] at this; exact this)).elim
      · exact y
section
variable {α : Type} {f : α → Iv} {T : List α} {R : List (Iv × List α)} (h : Gs f T R)
include h
theorem Gs.srt : R.Pairwise (fun a b => SL a.1 b.1) := by
  refine List.Pairwise.imp_of_mem (fun {a b} ha hb z => ?_) h.sep
  have := (h.grp a ha).le
  unfold Sep at z
  unfold SL
  omega
/-- the stretches of the groups, told by the picks alone -/
theorem Gs.iv (le : ∀ a ∈ T, (f a).1 ≤ (f a).2) {T' : List α} {R' : List (Iv × List α)} (h' : Gs f T' R') (same : ∀ a, a ∈ T ↔ a ∈ T') : R.map Prod.fst = R'.map Prod.fst := by
  have le' : ∀ a ∈ T', (f a).1 ≤ (f a).2 := fun a ha => le a ((same a).mpr ha)
  have e := h.chn.uniq h'.chn (fun x => by
    rw [h.cells, h'.cells]
    unfold cell
    exact exists_congr fun z => and_congr_left fun _ => by rw [List.mem_map, List.mem_map]; exact exists_congr fun a => and_congr_left fun _ => same a) fun x => by
    rw [h.inns, h'.inns]
    unfold inn
    exact exists_congr fun z => and_congr_left fun _ => by rw [List.mem_map, List.mem_map]; exact exists_congr fun a => and_congr_left fun _ => same a
  refine srt_uniq (k := id) (List.pairwise_map.mpr h.srt) (List.pairwise_map.mpr h'.srt) fun x => ?_
  have low : ∀ {R : List (Iv × List α)} {T : List α}, Gs f T R → ∀ {x : Iv}, x ∈ R.map Prod.fst → x.1 ≤ x.2 := fun g x hx => by
    obtain ⟨y, hy, rfl⟩ := List.mem_map.mp hx
    exact (g.grp y hy).le
  have key : x.1 < x.2 → (x ∈ R.map Prod.fst ↔ x ∈ R'.map Prod.fst) := fun lt => by
    have m : ∀ {l : List Iv}, x ∈ l.filter (fun r => decide (r.1 < r.2)) ↔ x ∈ l := fun {l} => by
      rw [List.mem_filter]
      exact ⟨fun z => z.1, fun z => ⟨z, decide_eq_true lt⟩⟩
    rw [← m (l := R.map Prod.fst), e, m]
  have car : ∀ p : Int, (p, p) ∈ R.map Prod.fst ↔ (p, p) ∈ R'.map Prod.fst := fun p => by
    rw [h.carets le, h'.carets le']
    refine and_congr (exists_congr fun a => and_congr_left fun _ => same a) ?_
    exact forall_congr' fun a => by rw [same a]
  rcases Int.lt_or_le x.1 x.2 with c | c
  · exact key c
  · constructor
    · intro hx
      have := low h hx
      have ex : x = (x.1, x.1) := Prod.ext rfl (by show x.2 = x.1; omega)
      rw [ex] at hx ⊢
      exact (car x.1).mp hx
    · intro hx
      have := low h' hx
      have ex : x = (x.1, x.1) := Prod.ext rfl (by show x.2 = x.1; omega)
      rw [ex] at hx ⊢
      exact (car x.1).mpr hx
end
/-! ### picks -/
def lh (a : Iv) : Iv := (min a.1 a.2, max a.1 a.2)
theorem lh_le (a : Iv) : (lh a).1 ≤ (lh a).2 := by show min a.1 a.2 ≤ max a.1 a.2; omega
/-- the pick of a group -/
def pk (g : Iv × List Iv) : Iv := if g.2.all fun a => decide (a.2 ≤ a.1) then (g.1.2, g.1.1) else g.1
/-- the pick of a stretch, by all picks within it -/
def pkT (T : List Iv) (r : Iv) : Iv := if (T.filter fun a => decide (a.1 ≠ a.2) && (decide (r.1 ≤ (lh a).1) && decide ((lh a).2 ≤ r.2))).all fun a => decide (a.2 < a.1) then (r.2, r.1) else r
theorem pk_pkT {T : List Iv} {R : List (Iv × List Iv)} (h : Gs lh T R) {g : Iv × List Iv} (hg : g ∈ R) : pk g = pkT T g.1 := by
  unfold pk pkT
  have gg := h.grp g hg
  have e : (g.2.all fun a => decide (a.2 ≤ a.1)) = ((T.filter fun a => decide (a.1 ≠ a.2) && (decide (g.1.1 ≤ (lh a).1) && decide ((lh a).2 ≤ g.1.2))).all fun a => decide (a.2 < a.1)) := by
    rw [Bool.eq_iff_iff, List.all_eq_true, List.all_eq_true]
    constructor
    · intro z a ha
      obtain ⟨aT, hw⟩ := List.mem_filter.mp ha
      rw [Bool.and_eq_true, Bool.and_eq_true, decide_eq_true_iff, decide_eq_true_iff, decide_eq_true_iff] at hw
      have lt : (lh a).1 < (lh a).2 := by show min a.1 a.2 < max a.1 a.2; have := hw.1; omega
      have := of_decide_eq_true (z a (h.within hg aT lt hw.2))
      exact decide_eq_true (by have := hw.1; omega)
    · intro z a ha
      by_cases c : a.1 = a.2
      · exact decide_eq_true (by omega)
      · have s := gg.sub a ha
        have := of_decide_eq_true (z a (List.mem_filter.mpr ⟨(h.mem a).mp ⟨g, hg, ha⟩, by rw [decide_eq_true c, decide_eq_true s.1, decide_eq_true s.2]; rfl⟩))
        exact decide_eq_true (by omega)
  rw [e]
/-- settled picks are told by the picks alone, in whatever order -/
theorem settled_same {T T' : List Iv} {R R' : List (Iv × List Iv)} (h : Gs lh T R) (h' : Gs lh T' R') (same : ∀ a, a ∈ T ↔ a ∈ T') : R.map pk = R'.map pk := by
  have e := h.iv (fun a _ => lh_le a) h' same
  have a1 : R.map pk = (R.map Prod.fst).map (pkT T) := by
    rw [List.map_map]
    exact List.map_congr_left fun g hg => pk_pkT h hg
  have a2 : R'.map pk = (R'.map Prod.fst).map (pkT T') := by
    rw [List.map_map]
    exact List.map_congr_left fun g hg => pk_pkT h' hg
  rw [a1, a2, e]
  refine List.map_congr_left fun r _ => ?_
  unfold pkT
  have : ((T.filter fun a => decide (a.1 ≠ a.2) && (decide (r.1 ≤ (lh a).1) && decide ((lh a).2 ≤ r.2))).all fun a => decide (a.2 < a.1)) = ((T'.filter fun a => decide (a.1 ≠ a.2) && (decide (r.1 ≤ (lh a).1) && decide ((lh a).2 ≤ r.2))).all fun a => decide (a.2 < a.1)) := by
    rw [Bool.eq_iff_iff, List.all_eq_true, List.all_eq_true]
    refine forall_congr' fun a => ?_
    rw [List.mem_filter, List.mem_filter, same a]
  rw [this]
/-- picks that are settled stay as they are -/
theorem sg_stay {β : Type} {f : β → Iv} : ∀ (r : List β) (a : β), (a :: r).Pairwise (fun x y => Sep (f x) (f y)) → sg f (f a, [a]) r = (a :: r).map fun x => (f x, [x])
  | [], a, _ => rfl
  | b :: r, a, h => by
    obtain ⟨h1, h2⟩ := List.pairwise_cons.mp h
    have s := h1 b (List.mem_cons_self ..)
    have n : ¬ Jn (f a) (f b) := by
      unfold Sep at s
      unfold Jn
      omega
    show (if Jn (f a) (f b) then _ else _) = _
    rw [if_neg n, sg_stay r b h2]
    rfl
theorem pk_one (a : Iv) : pk (lh a, [a]) = a := by
  unfold pk
  have e : ([a].all fun a => decide (a.2 ≤ a.1)) = decide (a.2 ≤ a.1) := by simp
  show (if ([a].all fun a => decide (a.2 ≤ a.1)) = true then ((lh a).2, (lh a).1) else lh a) = a
  rw [e]
  by_cases c : a.2 ≤ a.1
  · rw [if_pos (decide_eq_true c)]
    exact Prod.ext (by show max a.1 a.2 = a.1; omega) (by show min a.1 a.2 = a.2; omega)
  · rw [if_neg (by simpa using c)]
    exact Prod.ext (by show min a.1 a.2 = a.1; omega) (by show max a.1 a.2 = a.2; omega)
theorem lh_pk {g : Iv × List Iv} (h : g.1.1 ≤ g.1.2) : lh (pk g) = g.1 := by
  unfold pk
  split
  · exact Prod.ext (by show min g.1.2 g.1.1 = g.1.1; omega) (by show max g.1.2 g.1.1 = g.1.2; omega)
  · exact Prod.ext (by show min g.1.1 g.1.2 = g.1.1; omega) (by show max g.1.1 g.1.2 = g.1.2; omega)
theorem Gs.sepPk {T : List Iv} {R : List (Iv × List Iv)} (h : Gs lh T R) : (R.map pk).Pairwise (fun x y => Sep (lh x) (lh y)) := by
  rw [List.pairwise_map]
  refine List.Pairwise.imp_of_mem (fun {a b} ha hb z => ?_) h.sep
  rw [lh_pk (h.grp a ha).le, lh_pk (h.grp b hb).le]
  exact z
end Pk

/-! pairs of numbers; min and max of a pair -/
namespace Dk
open PySem PySem.Spec PyProof.Rows L2 PySem.SeqAt PySem.W
/-! min, max of a tuple of two numbers -/
section
variable {prog : Program} {w : World} {A : Around} {E : Value → Shared → Prop} {s : Shared}
theorem min_pair_at {l : Addr} {vs : Array Value} {as : List Addr} {a b : Int} {Q : Value → Shared → Prop} (hh : A.handled = none) (hl : s.heap.IsTuple l vs) (hr : ReadsAll s.heap vs.toList [.int a, .int b] as) (hu : A.units + 10 < cLine)
    (h : ∀ v h' tk, vs[if dataLt (.int b) (.int a) = true then 1 else 0]? = some v → (∀ b o, s.heap.get? b = some o → h'.get? b = some o) → Q v { s with heap := h', toks := tk }) :
    wpAny (model prog w) A (call (.builtin "min") [.ref l]) Q E s := by
  have hn : vs.size = 2 := readsAll_len hr
  have al : AlikeAll [PyData.int a, PyData.int b] := ⟨fun x hx y hy => by simp at hx hy; rcases hx with rfl | rfl <;> rcases hy with rfl | rfl <;> rfl, fun x hx => by simp at hx; rcases hx with rfl | rfl <;> exact fun z => nomatch z⟩
  refine call_min_walkH (iter_tupleW (A := A.in1) hh hl fun s₂ e W st hfp hw hk => ?_)
  refine ⟨_, _, _, _, _, _, _, s.heap, _, rfl, W, st, hfp, by omega, hw, hk, cmpIn_lt (A := A.in1) hr al (by show A.units + 1 + 0 < _; omega), fun v s' hP m => ?_⟩
  obtain ⟨h', tk, rfl, hk'⟩ := moved_old e rfl m
  rw [hn] at hP
  exact h v h' tk hP hk'
theorem max_pair_at {l : Addr} {vs : Array Value} {as : List Addr} {a b : Int} {Q : Value → Shared → Prop} (hh : A.handled = none) (hl : s.heap.IsTuple l vs) (hr : ReadsAll s.heap vs.toList [.int a, .int b] as) (hu : A.units + 10 < cLine)
    (h : ∀ v h' tk, vs[if dataLt (.int a) (.int b) = true then 1 else 0]? = some v → (∀ b o, s.heap.get? b = some o → h'.get? b = some o) → Q v { s with heap := h', toks := tk }) :
    wpAny (model prog w) A (call (.builtin "max") [.ref l]) Q E s := by
  have hn : vs.size = 2 := readsAll_len hr
  have al : AlikeAll [PyData.int a, PyData.int b] := ⟨fun x hx y hy => by simp at hx hy; rcases hx with rfl | rfl <;> rcases hy with rfl | rfl <;> rfl, fun x hx => by simp at hx; rcases hx with rfl | rfl <;> exact fun z => nomatch z⟩
  refine call_max_walkH (iter_tupleW (A := A.in1) hh hl fun s₂ e W st hfp hw hk => ?_)
  refine ⟨_, _, _, _, _, _, _, s.heap, _, rfl, W, st, hfp, by omega, hw, hk, cmpIn_gt (A := A.in1) hr al (by show A.units + 1 + 0 < _; omega), fun v s' hP m => ?_⟩
  obtain ⟨h', tk, rfl, hk'⟩ := moved_old e rfl m
  rw [hn] at hP
  exact h v h' tk hP hk'
end
def rMinP (K : PySem.W.Frag) : List V → Hp → VK → Prop := fun vs H Q => ∃ (p : Addr) (a b : Int), vs = [.ref p] ∧ SqT K H p [.int a, .int b] ∧ Q (.int (min a b)) H
def rMaxP (K : PySem.W.Frag) : List V → Hp → VK → Prop := fun vs H Q => ∃ (p : Addr) (a b : Int), vs = [.ref p] ∧ SqT K H p [.int a, .int b] ∧ Q (.int (max a b)) H
theorem call_minP {X : Cx} (hc : X.calm = true) (hu : X.A.units + 65 < cLine) : CallR X (.builtin "min") (rMinP X.K) := by
  intro pins s σ H vs us Q I r h
  obtain ⟨p, a, b, rfl, hp, q⟩ := h
  rw [Vals.ref1 r]
  obtain ⟨its, rv, pt, _⟩ := I.tuple hp
  obtain ⟨as, hr⟩ : ∃ as, ReadsAll s.heap its [.int a, .int b] as := dpall_reads I (.cons (.int a) (.cons (.int b) .nil)) rv
  refine min_pair_at (I.ok.hd hc) (show s.heap.IsTuple p its.toArray from pt) (by simpa using hr) (by omega) fun v h' tk hv k => ?_
  obtain ⟨x, hx, rx⟩ := Zp.vals_at rv (by simpa using hv)
  refine ⟨x, H, I.kept k, rx, ?_⟩
  rw [PySem.W.dataLt_int] at hx
  by_cases c : b < a
  · rw [if_pos (decide_eq_true c)] at hx
    cases hx
    rw [show min a b = b by omega] at q
    exact q
  · rw [if_neg (by simpa using c)] at hx
    cases hx
    rw [show min a b = a by omega] at q
    exact q
theorem call_maxP {X : Cx} (hc : X.calm = true) (hu : X.A.units + 65 < cLine) : CallR X (.builtin "max") (rMaxP X.K) := by
  intro pins s σ H vs us Q I r h
  obtain ⟨p, a, b, rfl, hp, q⟩ := h
  rw [Vals.ref1 r]
  obtain ⟨its, rv, pt, _⟩ := I.tuple hp
  obtain ⟨as, hr⟩ : ∃ as, ReadsAll s.heap its [.int a, .int b] as := dpall_reads I (.cons (.int a) (.cons (.int b) .nil)) rv
  refine max_pair_at (I.ok.hd hc) (show s.heap.IsTuple p its.toArray from pt) (by simpa using hr) (by omega) fun v h' tk hv k => ?_
  obtain ⟨x, hx, rx⟩ := Zp.vals_at rv (by simpa using hv)
  refine ⟨x, H, I.kept k, rx, ?_⟩
  rw [PySem.W.dataLt_int] at hx
  by_cases c : a < b
  · rw [if_pos (decide_eq_true c)] at hx
    cases hx
    rw [show max a b = b by omega] at q
    exact q
  · rw [if_neg (by simpa using c)] at hx
    cases hx
    rw [show max a b = a by omega] at q
    exact q
theorem k_minP {X : Cx} {K : PySem.W.Frag} (h : X.K = K) (hc : X.calm = true) (hu : X.A.units + 65 < cLine) : CallR X (.builtin "min") (rMinP K) := h ▸ call_minP hc hu
theorem k_maxP {X : Cx} {K : PySem.W.Frag} (h : X.K = K) (hc : X.calm = true) (hu : X.A.units + 65 < cLine) : CallR X (.builtin "max") (rMaxP K) := h ▸ call_maxP hc hu
theorem r_continue {σ : L2.St} {H : Hp} {D : Ends} (q : D.ct σ H) : tCont D σ H := q
/-! pairs -/
abbrev Iv := Pk.Iv
def PrV (H : Hp) (v : V) (x : Iv) : Prop := ∃ p : Addr, v = .ref p ∧ H p = some (.tup [.int x.1, .int x.2])
instance : Imm PrV := ⟨fun t h => h.imp fun p z => ⟨z.1, t _ _ z.2⟩⟩
abbrev PrL (H : Hp) : List V → List Iv → Prop := P2 (PrV H)
theorem prl_imm {H H' : Hp} {xs : List V} {l : List Iv} (t : Tk H H') (h : PrL H xs l) : PrL H' xs l := p2_imm t h
section
variable {K : PySem.W.Frag} {σ : L2.St} {H H' : Hp} {Q : VK} {v : V} {x : Iv} {N : L2.St → Hp → Prop} {t : TGs}
theorem r_minP (h : PrV H v x) (q : Q (.int (min x.1 x.2)) H) : rMinP K [v] H Q := by
  obtain ⟨p, rfl, hp⟩ := h
  exact ⟨p, _, _, rfl, sqT hp, q⟩
theorem r_maxP (h : PrV H v x) (q : Q (.int (max x.1 x.2)) H) : rMaxP K [v] H Q := by
  obtain ⟨p, rfl, hp⟩ := h
  exact ⟨p, _, _, rfl, sqT hp, q⟩
theorem r_gPr (h : PrV H v x) (k : t [.int x.1, .int x.2] σ H N) : gTup K 2 t v σ H N := by
  obtain ⟨p, rfl, hp⟩ := h
  exact r_gtup (sqT hp) rfl k
theorem r_ixPr0 (h : PrV H v x) (q : Q (.int x.1) H) : rIx K v (.int 0) H Q := by
  obtain ⟨p, rfl, hp⟩ := h
  exact r_ixT (sqT hp) (atI_nat (j := 0) rfl) q
theorem r_ixPr1 (h : PrV H v x) (q : Q (.int x.2) H) : rIx K v (.int 1) H Q := by
  obtain ⟨p, rfl, hp⟩ := h
  exact r_ixT (sqT hp) (atI_nat (j := 1) rfl) q
/-- a new pair: H2 is the heap with it -/
theorem r_mkPr {a b : Int} {P : V → Hp → Prop} (q : ∀ p H2, H p = none → H2 = upd H p (.tup [.int a, .int b]) → Ex H H2 → PrV H2 (.ref p) (a, b) → P (.ref p) H2) : [V.int a, V.int b].length ≤ sizeLine ∧ ∀ p, H p = none → P (.ref p) (upd H p (.tup [V.int a, V.int b])) :=
  r_small nsz fun p hp => q p _ hp rfl (Same.new (Same.refl H) hp) ⟨p, rfl, upd_same⟩
end
theorem newPr {H : Hp} {p : Addr} (hp : H p = none) (a b : Int) : ∃ H2, H2 = upd H p (.tup [.int a, .int b]) ∧ Ex H H2 ∧ PrV H2 (.ref p) (a, b) := ⟨_, rfl, Same.new (Same.refl H) hp, p, rfl, upd_same⟩
/-! sorted of pairs -/
theorem pk_key (H : Hp) : ∃ k : V → Int × Int, ∀ v x, PrV H v x → k v = x := by
  refine ⟨fun v => match v with
    | .ref p => (match H p with
      | some (.tup [.int a, .int b]) => (a, b)
      | _ => (0, 0))
    | _ => (0, 0), fun v x h => ?_⟩
  obtain ⟨p, rfl, hp⟩ := h
  show (match H p with
      | some (.tup [.int a, .int b]) => (a, b)
      | _ => (0, 0)) = x
  rw [hp]
/-- sorted(list of pairs): a new list, in order, with the same pairs -/
theorem r_sortPr {K : PySem.W.Frag} {H : Hp} {Q : VK} {p : Addr} {xs : List V} {l : List Iv} (hp : SqL K H p xs) (h : PrL H xs l)
    (q : ∀ ys m d, PrL H ys m → m.Pairwise Pk.Lx → m.Perm l → H d = none → Q (.ref d) (upd H d (.lst ys))) : rSortedPO K [.ref p] H Q := by
  obtain ⟨k, hk⟩ := pk_key H
  refine ⟨p, xs, k, rfl, hp, fun x hx => ?_, fun ys d h1 h2 hd => ?_⟩
  · obtain ⟨i, hi⟩ := List.mem_iff_getElem?.mp hx
    obtain ⟨y, hy, hr⟩ := h.get hi
    obtain ⟨t, rfl, ht⟩ := id hr
    have e := hk _ _ hr
    exact ⟨t, rfl, by rw [e]; exact ht⟩
  · have all : ∀ v ∈ ys, PrV H v (k v) := fun v hv => by
      obtain ⟨i, hi⟩ := List.mem_iff_getElem?.mp (h2.perm.mem_iff.mp hv)
      obtain ⟨y, hy, hr⟩ := h.get hi
      rw [hk _ _ hr]
      exact hr
    have e : l = xs.map k := by
      clear q h2 hp
      induction h with
      | nil => rfl
      | cons h t ih => rw [List.map_cons, hk _ _ h, ← ih]
    refine q ys (ys.map k) d ?_ ?_ ?_ hd
    · clear h1 h2
      induction ys with
      | nil => exact .nil
      | cons v r ih => exact .cons (all v (List.mem_cons_self ..)) (ih fun u hu => all u (List.mem_cons_of_mem _ hu))
    · refine List.pairwise_map.mpr (h1.imp fun {a b} g => ?_)
      have := SrtO.lexB_no.mp g
      unfold Pk.Lx
      omega
    · rw [e]
      exact h2.perm.map k
theorem r_bm0 {K : PySem.W.Frag} {T : String} {r : V → List V → Hp → VK → Prop} {to : TE} {σ : L2.St} {H : Hp} {Q : VK} (h : to σ H fun x H1 => tyV K T x H1 ∧ r x [] H1 Q) : tBM0 K T r to σ H Q := h
/-- xs.pop() -/
theorem r_popE {H : Hp} {Q : VK} {p : Addr} {xs : List V} {y : V} (h : H p = some (.lst (xs ++ [y]))) (q : Q y (upd H p (.lst xs))) : rPop (.ref p) [] H Q :=
  ⟨p, _, y, rfl, rfl, h, by rw [List.length_append, List.length_singleton, Nat.add_sub_cancel, List.getElem?_append_right (Nat.le_refl _), Nat.sub_self]; rfl, by rw [List.dropLast_concat]; exact q⟩
/-- over zip(tuple, list) of one length -/
theorem l_ZTL {K : PySem.W.Frag} {a b : Addr} {xs ys : List V} {g : TG} {tb : TS} {D : Ends} {σ : L2.St} {H : Hp} (hx0 : SqT K H a xs) (hy0 : SqL K H b ys) (hl : xs.length = ys.length) (Pv : Nat → L2.St → Hp → Prop) (p0 : Pv 0 σ H)
    (hk : ∀ i σ H, Pv i σ H → SqT K H a xs ∧ SqL K H b ys)
    (ht : ∀ i x y σ H p, xs[i]? = some x → ys[i]? = some y → Pv i σ H → H p = none → g (.ref p) σ (upd H p (.tup [x, y])) fun σ2 H2 => tb { D with nx := Pv (i + 1), ct := Pv (i + 1), bk := D.nx } σ2 H2)
    (hd : ∀ σ H, Pv xs.length σ H → D.nx σ H) :
    ∃ k1 k2 : Zp.Kd, [V.ref a, V.ref b] = [k1.v, k2.v] ∧ (∃ xs, k1.has K H xs) ∧ (∃ ys, k2.has K H ys) ∧ LoopW (Zp.ItzK K k1 k2) g tb D σ H := by
  refine ⟨.t a, .l b, rfl, ⟨xs, hx0⟩, ⟨ys, hy0⟩, for_it (Zp.walk_zipK (xs := xs) (ys := ys) (by first | rfl | exact hl)) Pv p0 (fun i σ H _ p => hk i σ H p) (fun i v σ H H' hi p yy => ?_) fun σ H p => hd σ H ?_⟩
  · obtain ⟨T, x, y, rfl, hT, rfl, ha, hb⟩ := yy
    exact ht i x y σ H T ha hb p hT
  · rw [hl, Nat.min_self] at p
    rw [hl]
    exact p
/-- sorted(set(xs)) -/
theorem r_setSort {K : PySem.W.Frag} {w : World} {σ : L2.St} {H : Hp} {Q : VK} {C : Addr} {ns : List Int} (hC : SqL K H C (ns.map V.int)) (hl : ns.length ≤ 4000)
    (k : ∀ (m : List Int) (d : Addr) (H' : Hp), Ex H H' → m.Pairwise (· < ·) → (∀ x, x ∈ m ↔ x ∈ ns) → H' d = some (.lst (m.map V.int)) → Q (.ref d) H') : Sx.rSetL K w [V.ref C] H (fun x H1 => tNil σ H1 fun xs H2 => Sx.rSortSU w (x :: xs) H2 Q) := by
  refine ⟨C, ns, rfl, hC, hl, fun p3 c hc hp3 => ⟨p3, _, c, rfl, upd_same, by omega, fun m d hpw hmem hd => ?_⟩⟩
  exact k m d _ ((Same.new (Same.refl H) hp3).trans (Same.new (Same.refl _) hd)) hpw (fun x => by rw [hmem, decide_eq_true_iff]) upd_same
/-! a comprehension over a text -/
theorem r_lcSo {tl : TE} {g : TG} {tt : TT} {te : TE} {vs : List Nat} {σ : L2.St} {H : Hp} {Q : VK} (h : tl σ H fun x H1 => ∃ z, x = .str z ∧ ∀ D, H1 D = none → ∃ W : Nat → Nat → Hp → Prop, (∃ m, W 0 m (upd H1 D (.lst []))) ∧ ∀ i m H, W i m H →
  ((Its z).stop i H ∧ Q (.ref D) H) ∨ ((Its z).go i H ∧ ∃ Nx : Hp → Prop, (∀ H', Nx H' → ∃ m', m' < m ∧ W (i + 1) m' H') ∧ ∀ x H', (Its z).yld i H x H' → g x (wipe σ vs) H' fun σ2 H2 => wipe σ2 vs = wipe σ vs ∧ tt σ2 H2 fun b H3 =>
    if b = true then te σ2 H3 fun y H4 => ∃ acc, H4 D = some (.lst acc) ∧ acc.length < sizeLine ∧ Nx (upd H4 D (.lst (acc ++ [y]))) else Nx H3)) : tLc (iStr tl) g tt te vs σ H Q := h
theorem l_lcS {z : Str} {g : TG} {tt : TT} {te : TE} {vs : List Nat} {σ : L2.St} {H1 : Hp} {Qd : Addr → Hp → Prop} (Pv : Addr → Nat → Hp → Prop) (h0 : ∀ D, H1 D = none → Pv D 0 (upd H1 D (.lst [])))
    (hs : ∀ D (i : Nat) c H, H1 D = none → (cs z)[i]? = some c → Pv D i H → g (.str ⟨#[c]⟩) (wipe σ vs) H fun σ2 H2 => wipe σ2 vs = wipe σ vs ∧ tt σ2 H2 fun b H3 =>
      if b = true then te σ2 H3 fun y H4 => ∃ acc, H4 D = some (.lst acc) ∧ acc.length < sizeLine ∧ Pv D (i + 1) (upd H4 D (.lst (acc ++ [y]))) else Pv D (i + 1) H3) (hd : ∀ D H, H1 D = none → Pv D z.length H → Qd D H) :
    ∃ y, V.str z = .str y ∧ ∀ D, H1 D = none → ∃ W : Nat → Nat → Hp → Prop, (∃ m, W 0 m (upd H1 D (.lst []))) ∧ ∀ i m H, W i m H →
  ((Its y).stop i H ∧ Qd D H) ∨ ((Its y).go i H ∧ ∃ Nx : Hp → Prop, (∀ H', Nx H' → ∃ m', m' < m ∧ W (i + 1) m' H') ∧ ∀ x H', (Its y).yld i H x H' → g x (wipe σ vs) H' fun σ2 H2 => wipe σ2 vs = wipe σ vs ∧ tt σ2 H2 fun b H3 =>
    if b = true then te σ2 H3 fun y H4 => ∃ acc, H4 D = some (.lst acc) ∧ acc.length < sizeLine ∧ Nx (upd H4 D (.lst (acc ++ [y]))) else Nx H3) :=
  ⟨z, rfl, fun D hD => lc_it walk_str (Pv D) (h0 D hD) (fun _ _ _ _ => trivial) (fun i x H H' hi p y => by
    obtain ⟨rfl, c, hc, rfl⟩ := y
    exact hs D i c _ hD (by rw [Array.getElem?_toList]; exact hc) p) fun H p => hd D H hD p⟩
theorem exm_self {K : PySem.W.Frag} {S : Addr} (h1 : PySem.W.subIn K (.ref S) (.type "BaseException") = some true) (h2 : PySem.W.isClsIn K S = true) (h3 : PySem.W.typeIn K (.ref S) = some (.type "type")) (h4 : PySem.W.subIn K (.ref S) (.ref S) = some true) :
    PySem.W.exmOne K (.ref S) (.ref S) = some true := by
  have e1 : (PySem.W.subIn K (.ref S) (.type "BaseException") == some true) = true := by rw [h1] <;> rfl
  have e2 : ((PySem.W.clsIn K S).isSome && PySem.W.typeIn K (.ref S) == some (.type "type")) = true := by
    have h2' : (PySem.W.clsIn K S).isSome = true := h2
    rw [h2', h3] <;> rfl
  show (if (PySem.W.subIn K (.ref S) (.type "BaseException") == some true) = true then (if ((PySem.W.clsIn K S).isSome && PySem.W.typeIn K (.ref S) == some (.type "type")) = true then PySem.W.subIn K (.ref S) (.ref S) else none) else none) = some true
  rw [if_pos e1, if_pos e2]
  exact h4
/-! a flow of draws: [state, count, pool] -/
def flow (M : Int) (f p : Addr) : Box where
  A := fun x => x = f ∨ x = p
  B := fun H => p ≠ f ∧ ∃ (z k : Int) (ns : List Int), H f = some (.lst [.int z, .int k, .ref p]) ∧ H p = some (.lst (ns.map V.int)) ∧ ns.length ≤ 63 ∧ 0 ≤ z ∧ z < M
  live := fun H h x a => by
    obtain ⟨_, k, z, ns, h1, h2, _⟩ := h
    rcases a with rfl | rfl
    · exact ⟨_, h1⟩
    · exact ⟨_, h2⟩
  keep := fun H H' h e => by
    obtain ⟨n, k, z, ns, h1, h2, h3⟩ := h
    exact ⟨n, k, z, ns, e _ _ (.inl rfl) h1, e _ _ (.inr rfl) h2, h3⟩
def spDrawsF (M : Int) (K : PySem.W.Frag) : Sp := fun vs H Q _ => ∃ (a : Addr) (ns : List Int), vs = [.ref a] ∧ SqL K H a (ns.map V.int) ∧ ns.length ≤ 63 ∧ ∀ f p H', Ex H H' → H f = none → H p = none → (flow M f p).B H' → Q (.ref f) H'
def spTakeF (M : Int) : Sp := fun vs H Q _ => ∃ (f p : Addr) (n : Int), vs = [.ref f, .int n] ∧ (flow M f p).B H ∧ 0 < n ∧ n < 1000000 ∧ ∀ (v : Nat) H', (v : Int) < n → Drw (flow M f p) H H' → Q (.int (v : Nat)) H'
theorem int_map {ns : List Int} {i : Nat} {x : V} (hx : (ns.map V.int)[i]? = some x) : ∃ c, ns[i]? = some c ∧ x = V.int c := by
  rw [List.getElem?_map] at hx
  cases e : ns[i]? with
  | none => rw [e] at hx; cases hx
  | some c => rw [e] at hx; exact ⟨c, rfl, (Option.some.inj hx).symm⟩
theorem cmul_s {i j : Int} (h1 : -(2 ^ 64) < j := by decide) (h2 : j < 2 ^ 64 := by decide) : CMul i j := .inr ⟨h1, h2⟩
end Dk

/-! sorted(tuple, key=a def that makes a pair of numbers) -/
namespace Sy
open PySem PySem.Spec PyProof.Rows L2 Dk
theorem perm_up {α β : Type} (f : α → β) : ∀ {p : List β} {q : List β}, p.Perm q → ∀ t : List α, t.map f = q → ∃ t' : List α, t'.Perm t ∧ t'.map f = p := by
  intro p q h
  induction h with
  | nil => intro t e; exact ⟨t, List.Perm.refl _, e⟩
  | cons x h ih =>
    intro t e
    cases t with
    | nil => cases e
    | cons a t =>
      rw [List.map_cons] at e
      obtain ⟨e1, e2⟩ := List.cons.inj e
      obtain ⟨t', h1, h2⟩ := ih t e2
      exact ⟨a :: t', h1.cons a, by rw [List.map_cons, h2, e1]⟩
  | swap x y l =>
    intro t e
    match t, e with
    | a :: b :: t, e =>
      rw [List.map_cons, List.map_cons] at e
      obtain ⟨e1, e2⟩ := List.cons.inj e
      obtain ⟨e2, e3⟩ := List.cons.inj e2
      exact ⟨b :: a :: t, List.Perm.swap _ _ _, by rw [List.map_cons, List.map_cons, e1, e2, e3]⟩
  | trans h1 h2 ih1 ih2 =>
    intro t e
    obtain ⟨t1, k1, k2⟩ := ih2 t e
    obtain ⟨t2, j1, j2⟩ := ih1 t1 k2
    exact ⟨t2, j1.trans k1, j2⟩
/-- the emptied list -/
def emp (a : Addr) (e : Nat) : HO := .ext fun h => h.get? a = some (seqObj "list" #[] e)
section
variable {X : Cx} {pins : List (Addr × Obj)} {σ : L2.St} {s : Shared} {H : Hp} {k : Nat} {f : Addr} {fd : FuncData} {ps : List Str} {sp : Sp} {E : XK}
theorem emp_get {a : Addr} {e : Nat} (I : Inv X pins σ H s) (h : H a = some (emp a e)) : s.heap.get? a = some (seqObj "list" #[] e) := (I.hok a _ h).1
theorem emp_ok {a : Addr} {e : Nat} {h : Heap} {H' : Hp} (q : h.get? a = some (seqObj "list" #[] e)) : ObjOk X.prog X.w H' h a (emp a e) := ⟨q, ⟨_, q⟩, fun h1 h2 g1 g2 => g2 _ g1⟩
theorem turn_ok {x : V} {u : Value} {Q : VK} (F : FnOk X.prog X.w X.K X.mg X.base CX0 k f fd ps sp) (hb : Binds X.K fd ps []) (hr : Room (k + 2) X.A) (I : Inv X pins σ H s) (r : RelV x u) (h : sp [x] H Q E) :
    wpAny (model X.prog X.w) X.A.in1.in1 (call (.ref f) [u]) (EP X pins σ Q) (fun _ _ => False) s := by
  have r2 : Vals [x] [u] := .cons r .nil
  have hl : ([u] ++ ([] : List Value)).length = ps.length := by rw [List.append_nil, ← r2.length]; exact F.len _ _ _ _ h
  have hr2 : Room k X.A.in1.in1 := (show Room (k + 1) X.A.in1 from Room.in1 hr).in1
  have hbb := hb s [u] I.kIn hl
  rw [List.append_nil] at hbb
  refine wpAny_call (codeAny_mono (F.run X.A.in1.in1 X.stack s H ⟨[u], []⟩ [u] [x] Q E hr2 I.env0.in1.in1 hbb r2 h) fun r s' hq => ?_)
  cases r with
  | error e => exact False.elim hq
  | ok fl =>
    cases fl with
    | ret u => exact I.after hq
    | next => exact False.elim hq
    | brk => exact False.elim hq
    | cont => exact False.elim hq
variable {α : Type} {R : Hp → V → α → Prop} [Imm R] {κ : α → Iv}
/-- what the key promises -/
def KeyOk (sp : Sp) (E : XK) (R : Hp → V → α → Prop) (κ : α → Iv) (H : Hp) (l : List α) : Prop := ∀ H' x a, Ex H H' → a ∈ l → R H' x a → sp [x] H' (fun v H2 => Ex H' H2 ∧ PrV H2 v (κ a)) E
theorem vals_get {xs : List V} {us : List Value} (r : Vals xs us) {i : Nat} {u : Value} (h : us[i]? = some u) : ∃ x, xs[i]? = some x ∧ RelV x u := by
  induction r generalizing i with
  | nil => cases h
  | cons r t ih =>
    cases i with
    | zero => exact ⟨_, rfl, by cases h; exact r⟩
    | succ i => exact ih h
theorem vals_snoc {xs : List V} {us : List Value} {x : V} {u : Value} (r : Vals xs us) (h : RelV x u) : Vals (xs ++ [x]) (us ++ [u]) := r.append (.cons h .nil)
theorem p2_snoc {β γ : Type} {S : β → γ → Prop} {xs : List β} {l : List γ} {x : β} {a : γ} (r : P2 S xs l) (h : S x a) : P2 S (xs ++ [x]) (l ++ [a]) := by
  induction r with
  | nil => exact .cons h .nil
  | cons r t ih => exact .cons r ih
/-- the loop over the items: the keys lie in the store -/
theorem rest_ok {a kS : Addr} {e1 : Nat} {H0 : Hp} {vs : List Value} {xs : List V} {l : List α} {P : PySem.Fin → Shared → Prop} {E' : Value → Shared → Prop} (F : FnOk X.prog X.w X.K X.mg X.base CX0 k f fd ps sp) (hb : Binds X.K fd ps []) (hr : Room (k + 2) X.A)
    (hk : KeyOk sp E R κ H0 l) (rx : Vals xs vs) (rl : P2 (R H0) xs l) (hl : l.length ≤ 1000) (I : Inv X pins σ H s) (e0 : Ex H0 H) (na : H0 a = none) (nk : H0 kS = none) (hka : kS ≠ a) (ha : H a = some (emp a e1)) (hkS : H kS = some (.lst []))
    (h : ∀ H' s' ks kv n, Inv X pins σ H' s' → Ex H0 H' → H' a = some (emp a e1) → H' kS = some (.lst ks) → P2 (PrV H') ks (l.map κ) → Vals ks kv → s'.heap.get? kS = some (seqObj "list" kv.toArray n) → wpAny (model X.prog X.w) X.A.in1.in1 (ksk_end a false vs.toArray e1 (.ref kS) kv.toArray) P E' s') :
    wpAny (model X.prog X.w) X.A.in1.in1 (ksk_rest a (.ref f) false vs.toArray e1 (.ref kS)) P E' s := by
  have hlen : vs.length ≤ 1000 := by rw [← rx.length, rl.len]; exact hl
  unfold ksk_rest
  refine wpAny_bind (wpAny_rule ?_)
  first
    | rw [List.forIn_toArray]
    | (rw [← Array.forIn_toList]; simp only [List.toList_toArray])
    | rw [← Array.forIn_toList]
  refine wpAny_bind (ksk_fold (fun i s' => ∃ H' ks, Inv X pins σ H' s' ∧ Ex H0 H' ∧ H' a = some (emp a e1) ∧ H' kS = some (.lst ks) ∧ P2 (PrV H') ks ((l.take i).map κ)) vs 0 s
    ⟨H, [], I, e0, ha, hkS, .nil⟩ ?step ?done)
  case step =>
    rintro j u s' hu ⟨H', ks, I', e', ha', hk', p'⟩
    simp only [Nat.zero_add] at p' ⊢
    obtain ⟨x, hx, rxu⟩ := vals_get rx hu
    obtain ⟨y, hy, ry⟩ := rl.get hx
    refine wpAny_bind (wpAny_attempt (wpAny_mono (turn_ok F hb hr I' rxu (hk H' x y e' (List.mem_of_getElem? hy) (imm (.ex e') ry))) (fun v s'' he => ?_) fun _ _ hF => hF.elim))
    obtain ⟨z, H2, I2, rz, e2, pz⟩ := he
    try dsimp only
    obtain ⟨hz, its, n, ri, hg⟩ := I2.hok kS _ (e2 _ _ hk')
    have jl : j < l.length := (List.getElem?_eq_some_iff.mp hy).1
    have kl : ks.length = j := by rw [p'.len, List.length_map, List.length_take]; omega
    have il : its.length = j := by rw [← ri.length]; exact kl
    obtain ⟨c2, hc2⟩ : ∃ c2, (s''.heap.update kS (Obj.mapSeq (·.push v))).get? kS = some (seqObj "list" (its.toArray.push v) c2) := ⟨_, get?_update_seq hg (·.push v)⟩
    refine wpAny_bind (listUpdate_at hg rfl ?_ (by rw [List.size_toArray, sizeLine_eq]; omega) (by rw [Array.size_push, List.size_toArray, sizeLine_eq]; omega))
    have sb := Heap.SameBut.update s''.heap kS (Obj.mapSeq (·.push v))
    have ea : its.toArray.push v = (its ++ [v]).toArray := by simp
    refine wpAny_pure ⟨rfl, upd H2 kS (.lst (ks ++ [z])), ks ++ [z], I2.write (e := kS) (t' := s''.toks) (by rw [e2 _ _ hk']; trivial) (.inl rfl) (fun b u hb hu => (sb.2 b hb).trans hu) ⟨_, hc2⟩ ⟨by rw [List.length_append, List.length_singleton, sizeLine_eq]; omega, its ++ [v], c2, vals_snoc ri rz, by rw [hc2, ea]⟩,
      Same.mut (e'.trans e2) nk, ?_, upd_same, ?_⟩
    · rw [upd_ne hka.symm]
      exact e2 _ _ ha'
    · have tk : Tk H2 (upd H2 kS (.lst (ks ++ [z]))) := Tk.put (e2 _ _ hk')
      have et : (l.take (j + 1)).map κ = (l.take j).map κ ++ [κ y] := by rw [List.take_add_one, hy]; simp
      rw [et]
      exact p2_snoc (prl_imm tk (prl_imm (.ex e2) p')) (imm tk pz)
  case done =>
    rintro s' ⟨H', ks, I', e', ha', hk', p'⟩
    have et : l.take (0 + vs.length) = l := List.take_of_length_le (by rw [← rx.length, rl.len]; omega)
    rw [et] at p'
    obtain ⟨hz, its, n, ri, hg⟩ := I'.hok kS _ hk'
    refine wpAny_bind (listItems_at hg rfl ?_)
    exact h H' s' ks its n I' e' ha' hk' p' ri hg
theorem key_pairs {h : Heap} {k0 : V → Int × Int} (hok : HOk X.prog X.w H h) (hk : ∀ v x, PrV H v x → k0 v = x) : ∀ {ks : List V} {kv : List Value} {l : List α}, P2 (PrV H) ks (l.map κ) → Vals ks kv →
    P2 (fun (key : Value) (a : α) => k0 (backV key) = κ a ∧ Srt.IsPair h key (κ a).1 (κ a).2) kv l := by
  intro ks kv l
  induction l generalizing ks kv with
  | nil =>
    intro p r
    rw [List.map_nil] at p
    cases p
    cases r
    exact .nil
  | cons a l ih =>
    intro p r
    rw [List.map_cons] at p
    cases p with
    | cons p t =>
      cases r with
      | cons r rt =>
        refine .cons ?_ (ih t rt)
        have e := hk _ _ p
        obtain ⟨q, rfl, hq⟩ := p
        cases r
        refine ⟨e, ?_⟩
        obtain ⟨_, its2, r2, o, ho, hc, n, hd⟩ := hok _ _ hq
        obtain ⟨u1, u2, rfl, ri, rj⟩ := vals2 r2
        obtain ⟨t1, rfl⟩ := ri
        obtain ⟨t2, rfl⟩ := rj
        exact ⟨q, o, t1, t2, n, rfl, ho, hc, hd⟩
theorem join_up {S : Value → α → Prop} {G : Hp} : ∀ {xs : List V} {l : List α}, P2 (R G) xs l → ∀ {vs kv : List Value}, Vals xs vs → P2 S kv l →
    ∃ T : List (Value × Value × V × α), T.map (fun t => (t.1, t.2.1)) = kv.zip vs ∧ T.map (fun t => t.2.2.2) = l ∧ ∀ t ∈ T, S t.1 t.2.2.2 ∧ RelV t.2.2.1 t.2.1 ∧ R G t.2.2.1 t.2.2.2 := by
  intro xs l p
  induction p with
  | nil => intro vs kv r q; cases r; cases q; exact ⟨[], rfl, rfl, fun t h => nomatch h⟩
  | @cons x y xs l p t ih =>
    intro vs kv r q
    cases r with
    | cons r rt =>
      cases q with
      | cons q qt =>
        obtain ⟨T, h1, h2, h3⟩ := ih rt qt
        refine ⟨(_, _, x, y) :: T, by rw [List.map_cons, h1]; rfl, by rw [List.map_cons, h2], fun t ht => ?_⟩
        rcases List.mem_cons.mp ht with rfl | ht
        · exact ⟨q, r, p⟩
        · exact h3 t ht
theorem vals_map {T : List (Value × Value × V × α)} (h : ∀ t ∈ T, RelV t.2.2.1 t.2.1) : Vals (T.map fun t => t.2.2.1) (T.map fun t => t.2.1) := by
  induction T with
  | nil => exact .nil
  | cons t T ih => exact .cons (h t (List.mem_cons_self ..)) (ih fun u hu => h u (List.mem_cons_of_mem _ hu))
theorem p2_map {G : Hp} {T : List (Value × Value × V × α)} (h : ∀ t ∈ T, R G t.2.2.1 t.2.2.2) : P2 (R G) (T.map fun t => t.2.2.1) (T.map fun t => t.2.2.2) := by
  induction T with
  | nil => exact .nil
  | cons t T ih => exact .cons (h t (List.mem_cons_self ..)) (ih fun u hu => h u (List.mem_cons_of_mem _ hu))
theorem tail_ok {a kS : Addr} {e1 : Nat} {H0 : Hp} {vs kv : List Value} {xs ks : List V} {l : List α} {k0 : V → Int × Int} {A : Around} {st : SortSt} {P : PySem.Fin → Shared → Prop} {E' : Value → Shared → Prop}
    (I : Inv X pins σ H s) (e0 : Ex H0 H) (na : H0 a = none) (nk : H0 kS = none) (hka : kS ≠ a) (ha : H a = some (emp a e1)) (hkS : H kS = some (.lst ks)) (hk0 : ∀ v x, PrV H v x → k0 v = x)
    (rx : Vals xs vs) (rl : P2 (R H) xs l) (hl : l.length ≤ 1000) (pk : P2 (PrV H) ks (l.map κ)) (rk : Vals ks kv)
    (hs : SrtO.Srtd (SrtO.lt2 fun v u => SrtO.lexB (k0 (backV v)) (k0 (backV u))) (arrOf st).toList) (hp : (arrOf st).toList.Perm (kv.zip vs)) (hf : failedOf st = none)
    (h : ∀ H' s' ys m, Inv X pins σ H' s' → Ex H0 H' → H' a = some (.lst ys) → P2 (R H') ys m → m.Pairwise (fun a b => Pk.Lx (κ a) (κ b)) → m.Perm l → P (.done (.ret .none)) s') :
    wpAny (model X.prog X.w) A (ksk_tail a false e1 (.ref kS) st) P E' s := by
  obtain ⟨T, t1, t2, t3⟩ := join_up rl rx (key_pairs I.hok hk0 pk rk)
  obtain ⟨T', u1, u2⟩ := perm_up (fun t : Value × Value × V × α => (t.1, t.2.1)) hp T t1
  have t3' : ∀ t ∈ T', k0 (backV t.1) = κ t.2.2.2 ∧ RelV t.2.2.1 t.2.1 ∧ R H t.2.2.1 t.2.2.2 := fun t ht => by
    obtain ⟨z1, z2⟩ := t3 t (u1.mem_iff.mp ht)
    exact ⟨z1.1, z2⟩
  have hm : (T'.map fun t => t.2.2.2).Perm l := by
    rw [← t2]
    exact u1.map _
  have ls : (T'.map fun t => t.2.2.1).length ≤ 1000 := by rw [List.length_map, ← List.length_map (f := fun t : Value × Value × V × α => t.2.2.2), hm.length_eq]; exact hl
  have es : (arrOf st).map (·.2) = (T'.map fun t => t.2.1).toArray := by
    apply Array.ext'
    rw [Array.toList_map, ← u2, List.map_map]
    rfl
  obtain ⟨_, its, ni, ri, hg⟩ := I.hok kS _ hkS
  have lk : its.length ≤ 1000 := by rw [← ri.length, pk.len, List.length_map]; exact hl
  obtain ⟨c1, hc1⟩ : ∃ c1, (s.heap.update kS (Obj.mapSeq fun _ => (#[] : Array Value))).get? kS = some (seqObj "list" (#[] : Array Value) c1) := ⟨_, get?_update_seq hg fun _ => #[]⟩
  have s1 := Heap.SameBut.update s.heap kS (Obj.mapSeq fun _ => (#[] : Array Value))
  have I1 : Inv X pins σ (upd H kS (.lst [])) { s with heap := s.heap.update kS (Obj.mapSeq fun _ => (#[] : Array Value)) } :=
    I.write (e := kS) (t' := s.toks) (by rw [hkS]; trivial) (.inl rfl) (fun b u hb hu => (s1.2 b hb).trans hu) ⟨_, hc1⟩ ⟨Nat.zero_le _, [], c1, .nil, hc1⟩
  have ha1 : upd H kS (.lst []) a = some (emp a e1) := by rw [upd_ne hka.symm]; exact ha
  have ga := emp_get I1 ha1
  unfold ksk_tail
  try dsimp only
  refine wpAny_bind (listUpdate_at hg rfl ?_ (by rw [List.size_toArray, sizeLine_eq]; omega) (Nat.zero_le _))
  refine wpAny_bind (wpAny_letGo ?_)
  refine wpAny_bind (seqEpoch_at ga rfl ?_)
  simp only [bne_self_eq_false, Bool.false_eq_true, if_false]
  refine wpAny_bind (listUpdate_at ga rfl ?_ (Nat.zero_le _) (by rw [es, List.size_toArray, List.length_map, ← List.length_map (f := fun t : Value × Value × V × α => t.2.2.1), sizeLine_eq]; omega))
  rw [hf]
  obtain ⟨c2, hc2⟩ : ∃ c2, ((s.heap.update kS (Obj.mapSeq fun _ => (#[] : Array Value))).update a (Obj.mapSeq fun _ => (arrOf st).map (·.2))).get? a = some (seqObj "list" ((arrOf st).map (·.2)) c2) := ⟨_, get?_update_seq ga fun _ => (arrOf st).map (·.2)⟩
  have s2 := Heap.SameBut.update (s.heap.update kS (Obj.mapSeq fun _ => (#[] : Array Value))) a (Obj.mapSeq fun _ => (arrOf st).map (·.2))
  have tk : Tk H (upd (upd H kS (.lst [])) a (.lst (T'.map fun t => t.2.2.1))) := fun p xs hp => by
    have n1 : p ≠ kS := fun z => by rw [z, hkS] at hp; cases hp
    have n2 : p ≠ a := fun z => by rw [z, ha] at hp; cases hp
    rw [upd_ne n2, upd_ne n1]
    exact hp
  refine wpAny_pure (h (upd (upd H kS (.lst [])) a (.lst (T'.map fun t => t.2.2.1))) _ (T'.map fun t => t.2.2.1) (T'.map fun t => t.2.2.2) (I1.write (e := a) (t' := s.toks) (by rw [ha1]; trivial) (.inl rfl) (fun b u hb hu => (s2.2 b hb).trans hu) ⟨_, hc2⟩
    ⟨by rw [sizeLine_eq]; omega, T'.map fun t => t.2.1, c2, vals_map fun t ht => (t3' t ht).2.1, by rw [← es]; exact hc2⟩) (Same.mut (Same.mut e0 nk) na) upd_same (p2_imm tk (p2_map fun t ht => (t3' t ht).2.2)) ?_ hm)
  rw [← u2] at hs
  refine List.pairwise_map.mpr ((List.pairwise_map.mp hs).imp_of_mem fun {p q} hp hq z => ?_)
  have z1 := (t3' p hp).1
  have z2 := (t3' q hq).1
  have z3 : SrtO.lexB (k0 (backV q.1)) (k0 (backV p.1)) = false := z
  rw [z1, z2] at z3
  have := SrtO.lexB_no.mp z3
  unfold Pk.Lx
  omega
theorem pairs_of {h : Heap} {k0 : V → Int × Int} : ∀ {kv : List Value} {l : List α}, P2 (fun (key : Value) (a : α) => k0 (backV key) = κ a ∧ Srt.IsPair h key (κ a).1 (κ a).2) kv l → ∀ v ∈ kv, Srt.IsPair h v (k0 (backV v)).1 (k0 (backV v)).2 := by
  intro kv l p
  induction p with
  | nil => intro v hv; cases hv
  | cons p t ih =>
    intro v hv
    rcases List.mem_cons.mp hv with rfl | hv
    · rw [p.1]; exact p.2
    · exact ih v hv
theorem end_ok {a kS : Addr} {e1 : Nat} {H0 : Hp} {vs kv : List Value} {xs ks : List V} {l : List α} {A : Around} {P : PySem.Fin → Shared → Prop} {E' : Value → Shared → Prop}
    (I : Inv X pins σ H s) (e0 : Ex H0 H) (na : H0 a = none) (nk : H0 kS = none) (hka : kS ≠ a) (ha : H a = some (emp a e1)) (hkS : H kS = some (.lst ks))
    (rx : Vals xs vs) (rl : P2 (R H) xs l) (hl : l.length ≤ 1000) (pk : P2 (PrV H) ks (l.map κ)) (rk : Vals ks kv)
    (h : ∀ H' s' ys m, Inv X pins σ H' s' → Ex H0 H' → H' a = some (.lst ys) → P2 (R H') ys m → m.Pairwise (fun a b => Pk.Lx (κ a) (κ b)) → m.Perm l → P (.done (.ret .none)) s') :
    wpAny (model X.prog X.w) A (ksk_end a false vs.toArray e1 (.ref kS) kv.toArray) P E' s := by
  obtain ⟨k0, hk0⟩ := pk_key H
  have hkv := key_pairs I.hok hk0 pk rk
  have hpr := pairs_of hkv
  have lx : vs.length = l.length := by rw [← rx.length, rl.len]
  have lk : kv.length = l.length := by rw [← rk.length, pk.len, List.length_map]
  have ez : (kv.toArray.zip vs.toArray).toList = kv.zip vs := by rw [ksk_zip]
  unfold ksk_end
  try dsimp only
  simp only [Bool.false_eq_true, if_false]
  by_cases h2 : vs.toArray.size < 2
  · rw [if_pos h2, if_pos h2]
    refine wpAny_bind (wpAny_pure ?_)
    rw [StateT.run_pure]
    refine wpAny_bind (wpAny_pure ?_)
    try dsimp only
    refine tail_ok (st := SortSt.mk' general' (kv.toArray.zip vs.toArray) #[] 7 none) I e0 na nk hka ha hkS hk0 rx rl hl pk rk ?_ (by rw [show (arrOf (SortSt.mk' general' (kv.toArray.zip vs.toArray) #[] 7 none)).toList = kv.zip vs from ez]) rfl h
    rw [show (arrOf (SortSt.mk' general' (kv.toArray.zip vs.toArray) #[] 7 none)).toList = kv.zip vs from ez]
    rw [List.size_toArray] at h2
    have hz : (kv.zip vs).length < 2 := by rw [List.length_zip]; omega
    match kv.zip vs, hz with
    | [], _ => exact List.Pairwise.nil
    | [v], _ => exact List.pairwise_singleton _ _
    | _ :: _ :: l, h => exact absurd h (by rw [List.length_cons, List.length_cons]; omega)
  · rw [if_neg h2, if_neg h2]
    rw [List.size_toArray] at h2
    obtain ⟨fs, h1, h3, h4⟩ := Srt.firsts_of fun v hv => ⟨_, _, hpr v hv⟩
    refine wpAny_bind (PySem.W.kat_kind (T := .type "int") h1 (by omega) (fun f hm => ?_) (by rfl) ?_)
    · obtain ⟨x, t, rfl⟩ := h4 f hm
      exact PySem.W.Looks.now
    · have e : (Value.type "int" != Value.type "tuple") = true := by first | decide +kernel | rfl | decide
      rw [e]
      have hall : SrtO.AllL (fun p : Keyed => p.1 ∈ kv) (arrOf (SortSt.mk' (tuples' true) (kv.toArray.zip vs.toArray) #[] 7 none)).toList := fun p hm => by
        rw [show (arrOf (SortSt.mk' (tuples' true) (kv.toArray.zip vs.toArray) #[] 7 none)).toList = kv.zip vs from ez] at hm
        exact (List.of_mem_zip hm).1
      refine wpAny_bind (wpAny_mono (SrtO.wpS_sortO (st0 := SortSt.mk' (tuples' true) (kv.toArray.zip vs.toArray) #[] 7 none)
        (Q := fun _ st' => SrtO.Srtd (SrtO.lt2 fun v u => SrtO.lexB (k0 (backV v)) (k0 (backV u))) (arrOf st').toList ∧ (arrOf st').toList.Perm (kv.zip vs) ∧ failedOf st' = none) (SrtO.swo2 (SrtO.swo_lex fun v => k0 (backV v))) (SrtO.pair_cmp (k := fun v => k0 (backV v)) hpr) rfl hall rfl rfl
        fun st' a1 a2 a3 => ⟨a1, by rw [← ez]; exact a2.perm, a3⟩) ?_ fun _ _ e => e)
      rintro ⟨⟨⟩, st'⟩ s' ⟨rfl, hp1, hp2, hf⟩
      try dsimp only
      exact tail_ok I e0 na nk hka ha hkS hk0 rx rl hl pk rk hp1 hp2 hf h
/-- sorted(a tuple, key=a def) -/
def rSortK (K : PySem.W.Frag) (sp : Sp) (E : XK) (f : Addr) (R : Hp → V → α → Prop) (κ : α → Iv) : List V → List V → Hp → VK → Prop := fun vs zs H Q => ∃ (t : Addr) (xs : List V) (l : List α), vs = [V.ref t] ∧ zs = [V.ref f] ∧ SqT K H t xs ∧ P2 (R H) xs l ∧ l.length ≤ 1000 ∧ KeyOk sp E R κ H l ∧
  ∀ ys m d H', Ex H H' → P2 (R H') ys m → m.Pairwise (fun a b => Pk.Lx (κ a) (κ b)) → m.Perm l → H d = none → H' d = some (.lst ys) → Q (.ref d) H'
theorem cr_sortK (F : FnOk X.prog X.w X.K X.mg X.base CX0 k f fd ps sp) (hb : Binds X.K fd ps []) (hr : Room (k + 2) X.A) : CallRK X (.builtin "sorted") [Str.ofString "key"] (rSortK X.K sp E f R κ) := by
  intro pins s σ H vs zs us ws Q I r rz h
  obtain ⟨t, xs, l, rfl, rfl, ht, rl, hl, hk, q⟩ := h
  obtain rfl := Vals.ref1 r
  obtain ⟨w1, rfl, e1⟩ := vals1 rz
  obtain rfl : w1 = Value.ref f := e1
  obtain ⟨vs, rx, ⟨o, ho, hc, n, hd⟩, hz⟩ := I.tuple ht
  have hv : vs.length ≤ 1000 := by rw [← rx.length, rl.len]; exact hl
  refine call_function_entry_kw kind_sorted plain_sorted entry_sorted (ksk_s1 _ _) ?_
  unfold Builtin.«sorted»
  refine wpAny_bind (m := checkCount "sorted" 1 1 _) (wpAny_pure ?_)
  refine wpAny_bind (wpAny_collect_seq t (.inr rfl) ho hc hd (fun h1 k1 => ?_) (by rw [List.size_toArray, sizeLine_eq]; omega))
  have I1 : Inv X pins σ H { s with heap := h1 } := I.kept (t' := s.toks) k1
  refine wpAny_bind (wpAny_newList ?_ (by rw [sizeLine_eq]; show vs.toArray.toList.length ≤ _; simp; omega))
  have ev : vs.toArray.toList = vs := by simp
  rw [ev]
  have hoL : (h1.push (seqObj "list" vs.toArray 0)).get? h1.objs.size = some (seqObj "list" vs.toArray 0) := Heap.get?_push_size _ rfl
  refine wpAny_bind (wpAny_holding (wpAny_call_entry_kw slot_list_sort ⟨_, hoL, rfl⟩ entry_list_sort ?body (ksk_l1 _ _)))
  case body =>
    show wpAny (model X.prog X.w) X.A.in1.in1 (Builtin.«list.sort» ⟨[.ref h1.objs.size], [(Str.ofString "key", .ref f)]⟩) _ _ _
    rw [ksk_t1]
    have na : H h1.objs.size = none := I1.hok.fresh (Nat.le_refl _)
    have hv2 : vs.toArray.size ≤ sizeLine := by rw [List.size_toArray, sizeLine_eq]; omega
    unfold ksk_tree
    refine wpAny_bind (listItems_at hoL rfl ?_)
    refine wpAny_bind (listUpdate_at hoL rfl ?_ hv2 (Nat.zero_le _))
    obtain ⟨e2, ho2⟩ : ∃ e2, ((h1.push (seqObj "list" vs.toArray 0)).update h1.objs.size (Obj.mapSeq fun _ => (#[] : Array Value))).get? h1.objs.size = some (seqObj "list" #[] e2) := ⟨_, get?_update_seq hoL fun _ => #[]⟩
    refine wpAny_bind (seqEpoch_at ho2 rfl ?_)
    refine wpAny_bind (wpAny_newTuple ?_ hv2)
    refine wpAny_bind (wpAny_newList ?_ (Nat.zero_le _))
    refine wpAny_holding ?_
    have sb := Heap.SameBut.update (h1.push (seqObj "list" vs.toArray 0)) h1.objs.size (Obj.mapSeq fun _ => (#[] : Array Value))
    let h3 := ((h1.push (seqObj "list" vs.toArray 0)).update h1.objs.size (Obj.mapSeq fun _ => (#[] : Array Value))).push { cls := .type "tuple", data := .seq vs.toArray.toList.toArray }
    have ho3 : h3.get? h1.objs.size = some (seqObj "list" #[] e2) := Heap.get?_push_of_some _ ho2
    have keep3 : ∀ b o, h1.get? b = some o → h3.get? b = some o := fun b o q =>
      Heap.get?_push_of_some _ ((sb.2 b (Nat.ne_of_lt (Heap.lt_size q))).trans (Heap.get?_push_of_some _ q))
    have sz3 : h3.objs.size = h1.objs.size + 2 := by
      show (Heap.push _ _).objs.size = _
      rw [size_push', Heap.size_update, size_push']
    have I3 : Inv X pins σ (upd H h1.objs.size (emp h1.objs.size e2)) { s with heap := h3 } := I1.laid (t' := s.toks) keep3 (Nat.le_refl _) (emp_ok ho3)
    have nk : H h3.objs.size = none := I1.hok.fresh (by show h1.objs.size ≤ _; omega)
    have I4 : Inv X pins σ (upd (upd H h1.objs.size (emp h1.objs.size e2)) h3.objs.size (.lst [])) { s with heap := h3.push { cls := .type "list", data := .seq ([] : List Value).toArray } } :=
      I3.laid (t' := s.toks) (fun b u e => Heap.get?_push_of_some _ e) (Nat.le_refl _) ⟨Nat.zero_le _, [], 0, .nil, Heap.get?_push_size _ rfl⟩
    have hka : h3.objs.size ≠ h1.objs.size := by omega
    refine rest_ok (H0 := H) (a := h1.objs.size) (kS := h3.objs.size) F hb hr hk rx rl hl I4 (Same.mut (Same.mut (Same.refl H) na) nk) na nk hka (by rw [upd_ne hka.symm]; exact upd_same) upd_same fun H' s' ks kv n I' e' ha' hk' p' rk _ => ?_
    refine end_ok I' e' na nk hka ha' hk' rx (p2_imm (.ex e') rl) hl p' rk fun H2 s2 ys m I2 e2' ha2 p2 hpw hpm => ?_
    exact ⟨_, rfl, wpAny_pure ⟨_, rfl, .ref _, H2, I2, rfl, q ys m _ H2 e2' p2 hpw hpm na ha2⟩⟩
end
end Sy

/-! sorted(list of triples: two numbers, no two alike, and a pair) -/
namespace Sz
open PySem PySem.Spec PyProof.Rows L2 Dk
def TrV (H : Hp) (v : V) (x : Iv × Iv) : Prop := ∃ p q : Addr, v = .ref p ∧ H p = some (.tup [.int x.1.1, .int x.1.2, .ref q]) ∧ PrV H (.ref q) x.2
instance : Imm TrV := ⟨fun t h => by
  obtain ⟨p, q, h1, h2, h3⟩ := h
  exact ⟨p, q, h1, t _ _ h2, imm t h3⟩⟩
def IsTri (h : Heap) (v : Value) (x y : Int) (z : Value) : Prop := ∃ a o t u n, v = .ref a ∧ h.get? a = some o ∧ o.cls = .type "tuple" ∧ o.data = .seq #[.int x t, .int y u, z] n
theorem IsTri.keeps {h h' : Heap} {v z : Value} {x y : Int} (p : IsTri h v x y z) (k : ∀ b o, h.get? b = some o → o.cls = .type "tuple" → h'.get? b = some o) : IsTri h' v x y z := by
  obtain ⟨a, o, t, u, n, e, ho, hc, hd⟩ := p
  exact ⟨a, o, t, u, n, e, k _ _ ho hc, hc, hd⟩
theorem firsts_of {h : Heap} : ∀ {vs : List Value}, (∀ v ∈ vs, ∃ x y z, IsTri h v x y z) → ∃ fs : List Value, PySem.W.KatTups h vs fs ∧ fs.length = vs.length ∧ ∀ f ∈ fs, ∃ x t, f = Value.int x t
  | [], _ => ⟨[], PySem.W.KatTups.nil, rfl, fun _ hm => by simp at hm⟩
  | v :: vs, hp => by
    obtain ⟨fs, h1, h2, h3⟩ := firsts_of (vs := vs) fun v' hm => hp v' (List.mem_cons_of_mem _ hm)
    obtain ⟨x, y, z, a, o, t, u, n, e, ho, hc, hd⟩ := hp v (List.mem_cons_self ..)
    subst e
    refine ⟨.int x t :: fs, PySem.W.KatTups.cons ho hc hd rfl h1, by rw [List.length_cons, List.length_cons, h2], fun f hm => ?_⟩
    rcases List.mem_cons.mp hm with rfl | hm
    · exact ⟨x, t, rfl⟩
    · exact h3 f hm
section
variable {prog : Program} {w : World} {A : Around} {E : Value → Shared → Prop} {s : Shared}
theorem tri_cmp {vs : List Value} {k : Value → Int × Int} (hp : ∀ v ∈ vs, ∃ z, IsTri s.heap v (k v).1 (k v).2 z) (inj : ∀ v ∈ vs, ∀ u ∈ vs, k v = k u → v = u) :
    SrtO.Cmp prog w A s (tuples' true) (fun p => p.1 ∈ vs) (SrtO.lt2 fun v u => SrtO.lexB (k v) (k u)) := by
  intro p q hm hm'
  obtain ⟨z, h1⟩ := hp _ hm
  obtain ⟨z', h2⟩ := hp _ hm'
  have hin := inj _ hm _ hm'
  show wpAny (model prog w) A (keyLt' (tuples' true) p.1 q.1) (fun r s' => s' = s ∧ r = SrtO.lexB (k p.1) (k q.1)) (fun _ _ => False) s
  unfold SrtO.lexB
  have hin' : (k p.1).1 = (k q.1).1 → (k p.1).2 = (k q.1).2 → p.1 = q.1 := fun a b => hin (Prod.ext a b)
  generalize (k p.1).1 = x at h1 hin' ⊢
  generalize (k p.1).2 = y at h1 hin' ⊢
  generalize (k q.1).1 = x' at h2 hin' ⊢
  generalize (k q.1).2 = y' at h2 hin' ⊢
  obtain ⟨a, o, t, u, n, e, ho, hc, hd⟩ := h1
  obtain ⟨a', o', t', u', n', e', ho', hc', hd'⟩ := h2
  rw [e, e'] at hin'
  rw [e, e']
  refine PySem.W.kat_lt ho hd ho' hd' ?_
  show PySem.W.KatLex prog w A true (decide (3 < 3)) _ [(.int x t, .int x' t'), (.int y u, .int y' u'), (z, z')] 0 s
  refine PySem.W.kat_cons (SeqAt.EqAt.int_int x t x' t' prog w _ _ ?_)
  refine PySem.W.kat_go (fun e1 => ?_) (fun e1 => ?_)
  · have ex : x = x' := by simpa using e1
    refine PySem.W.kat_yes (PySem.W.kat_cons (SeqAt.EqAt.int_int y u y' u' prog w _ _ ?_))
    refine PySem.W.kat_go (fun e2 => ?_) (fun e2 => ?_)
    · have ey : y = y' := by simpa using e2
      have e3 : (if x = x' then decide (y < y') else decide (x < x')) = false := by
        rw [if_pos ex, ey]
        exact decide_eq_false (Int.lt_irrefl _)
      have ea : a = a' := by have := hin' ex ey; injection this
      subst ea
      rw [ho] at ho'
      cases ho'
      rw [hd] at hd'
      injection hd' with d1 d2
      have dz : z = z' := by
        have := congrArg (fun xs : Array Value => xs[2]?) d1
        simpa using this
      subst dz
      refine PySem.W.kat_yes (PySem.W.kat_cons (SeqAt.EqAt.same z prog w _ _ ?_))
      refine PySem.W.kat_go (fun _ => ?_) (fun e3 => by cases e3)
      exact PySem.W.kat_yes (PySem.W.kat_nil ⟨rfl, e3.symm⟩)
    · have e3 : (if x = x' then decide (y < y') else decide (x < x')) = decide (y < y') := if_pos ex
      refine PySem.W.kat_no (PySem.W.kat_one _ _ (PyProof.Rows.lt_int ?_))
      exact (show s = s ∧ decide (y < y') = (if x = x' then decide (y < y') else decide (x < x')) from ⟨rfl, e3.symm⟩)
  · have ex : ¬ x = x' := by simpa using e1
    have e3 : (if x = x' then decide (y < y') else decide (x < x')) = decide (x < x') := if_neg ex
    exact PySem.W.kat_no (oneLt_int ⟨rfl, e3.symm⟩)
theorem tri_sortable {a : Addr} {vs : List Value} {k : Value → Int × Int} (h0 : 0 < vs.length) (hp : ∀ v ∈ vs, ∃ z, IsTri s.heap v (k v).1 (k v).2 z) (inj : ∀ v ∈ vs, ∀ u ∈ vs, k v = k u → v = u) (ha : ∀ o, s.heap.get? a = some o → o.cls ≠ .type "tuple") :
    SrtO.SortableO prog w A s a vs fun v u => SrtO.lexB (k v) (k u) := by
  intro h' keep
  have hp' : ∀ v ∈ vs, ∃ z, IsTri h' v (k v).1 (k v).2 z := fun v hm => (hp v hm).imp fun _ g => g.keeps fun b o e c => keep b o (fun z => by subst z; exact ha o e c) e
  obtain ⟨fs, h1, h2, h3⟩ := firsts_of fun v hm => ⟨_, _, hp' v hm⟩
  refine ⟨tuples' true, fun Q E hq => ?_, tri_cmp hp' inj⟩
  refine PySem.W.kat_kind (T := .type "int") h1 (by omega) (fun f hm => ?_) (by rfl) ?_
  · obtain ⟨x, t, rfl⟩ := h3 f hm
    exact PySem.W.Looks.now
  · have e : (Value.type "int" != Value.type "tuple") = true := by first | decide +kernel | rfl | decide
    rw [e]
    exact hq
end
theorem tr_key (H : Hp) : ∃ k : V → Int × Int, ∀ v x, TrV H v x → k v = x.1 := by
  refine ⟨fun v => match v with
    | .ref p => (match H p with
      | some (.tup [.int a, .int b, _]) => (a, b)
      | _ => (0, 0))
    | _ => (0, 0), fun v x h => ?_⟩
  obtain ⟨p, q, rfl, hp, _⟩ := h
  show (match H p with
      | some (.tup [.int a, .int b, _]) => (a, b)
      | _ => (0, 0)) = x.1
  rw [hp]
theorem p2_true {α β : Type} : ∀ {xs : List α} {ys : List β}, xs.length = ys.length → P2 (fun _ _ => True) xs ys
  | [], [], _ => .nil
  | _ :: xs, _ :: ys, h => .cons trivial (p2_true (Nat.succ.inj h))
def rSortT (K : PySem.W.Frag) : List V → Hp → VK → Prop := fun vs H Q => ∃ (a : Addr) (xs : List V) (l : List (Iv × Iv)), vs = [V.ref a] ∧ SqL K H a xs ∧ P2 (TrV H) xs l ∧ (l.map Prod.fst).Nodup ∧
  ∀ ys m d, P2 (TrV H) ys m → m.Pairwise (fun a b => Pk.Lx a.1 b.1) → m.Perm l → H d = none → Q (.ref d) (upd H d (.lst ys))
theorem cr_sortT {X : Cx} : CallR X (.builtin "sorted") (rSortT X.K) := by
  intro pins s σ H vs us Q I r h
  obtain ⟨a, xs, l, rfl, hs, pl, nd, q⟩ := h
  obtain ⟨its, rv, hl, hz⟩ := I.list hs
  obtain rfl := Vals.ref1 r
  obtain ⟨k0, hk0⟩ := tr_key H
  -- each item, its value and its data
  have tri : ∀ x y v, TrV H x y → RelV x v → k0 (backV v) = y.1 ∧ ∃ z, IsTri s.heap v y.1.1 y.1.2 z := fun x y v hx hv => by
    have e := hk0 _ _ hx
    obtain ⟨p, t, rfl, hp, _⟩ := hx
    cases hv
    refine ⟨e, ?_⟩
    obtain ⟨_, its2, r2, o, ho, hc, n, hd⟩ := I.hok _ _ hp
    obtain ⟨u1, us1, rfl, ri, r3⟩ : ∃ u1 us1, its2 = u1 :: us1 ∧ RelV (.int y.1.1) u1 ∧ Vals [.int y.1.2, .ref t] us1 := by
      cases r2 with | cons r r' => exact ⟨_, _, rfl, r, r'⟩
    obtain ⟨u2, u3, rfl, rj, rt⟩ := vals2 r3
    obtain ⟨t1, rfl⟩ := ri
    obtain ⟨t2, rfl⟩ := rj
    exact ⟨u3, p, o, t1, t2, n, rfl, ho, hc, hd⟩
  have ix : ∀ {v : Value}, v ∈ its → ∃ i x y, its[i]? = some v ∧ xs[i]? = some x ∧ l[i]? = some y ∧ RelV x v ∧ TrV H x y := fun {v} hv => by
    obtain ⟨i, hi⟩ := List.mem_iff_getElem?.mp hv
    obtain ⟨x, hx, rx⟩ := Sy.vals_get rv hi
    obtain ⟨y, hy, ry⟩ := pl.get hx
    exact ⟨i, x, y, hi, hx, hy, rx, ry⟩
  have hp : ∀ v ∈ its, ∃ z, IsTri s.heap v (k0 (backV v)).1 (k0 (backV v)).2 z := fun v hv => by
    obtain ⟨i, x, y, _, _, _, rx, ry⟩ := ix hv
    obtain ⟨e, g⟩ := tri x y v ry rx
    rw [e]
    exact g
  have inj : ∀ v ∈ its, ∀ u ∈ its, k0 (backV v) = k0 (backV u) → v = u := fun v hv u hu e => by
    obtain ⟨i, x, y, hi, _, hy, rx, ry⟩ := ix hv
    obtain ⟨j, x', y', hj, _, hy', rx', ry'⟩ := ix hu
    rw [(tri x y v ry rx).1, (tri x' y' u ry' rx').1] at e
    have il : i < (l.map Prod.fst).length := by rw [List.length_map]; exact (List.getElem?_eq_some_iff.mp hy).1
    have jl : j < (l.map Prod.fst).length := by rw [List.length_map]; exact (List.getElem?_eq_some_iff.mp hy').1
    have ij : i = j := by
      have ee : (l.map Prod.fst)[i] = (l.map Prod.fst)[j] := by
        rw [List.getElem_map, List.getElem_map, (List.getElem?_eq_some_iff.mp hy).2, (List.getElem?_eq_some_iff.mp hy').2]
        exact e
      have pw := List.pairwise_iff_getElem.mp nd
      rcases Nat.lt_trichotomy i j with c | c | c
      · exact absurd ee (pw i j il jl c)
      · exact c
      · exact absurd ee.symm (pw j i jl il c)
    subst ij
    rw [hi] at hj
    exact Option.some.inj hj
  refine SrtO.sorted_ord (SrtO.swo_lex fun v => k0 (backV v)) hl.isList (by rw [← rv.length]; exact hz) (fun h2 h₁ a ha kk => ?_) fun out hs hb => ?_
  · refine tri_sortable (s := { s with heap := h₁ }) (k := fun v => k0 (backV v)) (by omega) (fun v hm => (hp v hm).imp fun _ g => g.keeps fun b o e _ => (kk b o e).2) inj fun o e => ?_
    have e' : some o = some (seqObj "list" its.toArray 0) := e.symm.trans (by simpa using ha)
    cases e'
    intro c
    exact absurd (Value.type.inj c) (by decide)
  · -- the data in the same order
    have hlen : its.length = l.length := by rw [← rv.length, pl.len]
    obtain ⟨T, t1, t2, t3⟩ := Sy.join_up (S := fun (_ : Value) (_ : Iv × Iv) => True) pl rv (kv := its) (p2_true hlen)
    have e1 : T.map (fun t => t.2.1) = its := by
      have := congrArg (List.map Prod.snd) t1
      rw [List.map_map, List.map_snd_zip (Nat.le_refl _)] at this
      exact this
    obtain ⟨T', u1, u2⟩ := Sy.perm_up (fun t : Value × Value × V × (Iv × Iv) => t.2.1) hb.perm T e1
    have t3' : ∀ t ∈ T', RelV t.2.2.1 t.2.1 ∧ TrV H t.2.2.1 t.2.2.2 := fun t ht => (t3 t (u1.mem_iff.mp ht)).2
    have hm : (T'.map fun t => t.2.2.2).Perm l := by
      rw [← t2]
      exact u1.map _
    have ls : (T'.map fun t => t.2.2.1).length ≤ sizeLine := by
      rw [List.length_map, ← List.length_map (f := fun t : Value × Value × V × (Iv × Iv) => t.2.2.2), hm.length_eq, ← pl.len]
      exact hz
    obtain ⟨n, hn⟩ := sortedAll_at s.heap its out.toArray
    have rvs : Vals (T'.map fun t => t.2.2.1) out := by rw [← u2]; exact Sy.vals_map fun t ht => (t3' t ht).1
    refine ⟨.ref _, upd H (s.heap.objs.size + 1) (.lst (T'.map fun t => t.2.2.1)), I.laid (t' := s.toks) (fun _ _ => sortedAll_old) (Nat.le_succ _) ⟨ls, out, n, rvs, hn⟩, rfl, q _ (T'.map fun t => t.2.2.2) _ (Sy.p2_map fun t ht => (t3' t ht).2) ?_ hm (I.hok.fresh (Nat.le_succ _))⟩
    rw [← u2] at hs
    refine List.pairwise_map.mpr ((List.pairwise_map.mp hs).imp_of_mem fun {p q} hp hq z => ?_)
    have z1 := (tri _ _ _ (t3' p hp).2 (t3' p hp).1).1
    have z2 := (tri _ _ _ (t3' q hq).2 (t3' q hq).1).1
    have z3 : SrtO.lexB (k0 (backV q.2.1)) (k0 (backV p.2.1)) = false := z
    rw [z1, z2] at z3
    have := SrtO.lexB_no.mp z3
    unfold Pk.Lx
    omega
/-- sorted(a tuple of pairs) -/
def rSortPT (K : PySem.W.Frag) : List V → Hp → VK → Prop := fun vs H Q => ∃ (t : Addr) (xs : List V) (l : List Iv), vs = [V.ref t] ∧ SqT K H t xs ∧ PrL H xs l ∧
  ∀ ys m d, PrL H ys m → m.Pairwise Pk.Lx → m.Perm l → H d = none → Q (.ref d) (upd H d (.lst ys))
theorem cr_sortPT {X : Cx} : CallR X (.builtin "sorted") (rSortPT X.K) := by
  intro pins s σ H vs us Q I r h
  obtain ⟨t, xs, l, rfl, hs, pl, q⟩ := h
  obtain ⟨its, rv, ⟨o, ho, hc, n0, hd⟩, hz⟩ := I.tuple hs
  obtain rfl := Vals.ref1 r
  obtain ⟨k0, hk0⟩ := pk_key H
  have hv : its.length ≤ sizeLine := by rw [← rv.length]; exact hz
  have tri : ∀ x y v, PrV H x y → RelV x v → k0 (backV v) = y ∧ Srt.IsPair s.heap v y.1 y.2 := fun x y v hx hv => by
    have e := hk0 _ _ hx
    obtain ⟨p, rfl, hp⟩ := hx
    cases hv
    refine ⟨e, ?_⟩
    obtain ⟨_, its2, r2, o, ho, hc, n, hd⟩ := I.hok _ _ hp
    obtain ⟨u1, u2, rfl, ri, rj⟩ := vals2 r2
    obtain ⟨t1, rfl⟩ := ri
    obtain ⟨t2, rfl⟩ := rj
    exact ⟨p, o, t1, t2, n, rfl, ho, hc, hd⟩
  have hp : ∀ v ∈ its, Srt.IsPair s.heap v (k0 (backV v)).1 (k0 (backV v)).2 := fun v hv => by
    obtain ⟨i, hi⟩ := List.mem_iff_getElem?.mp hv
    obtain ⟨x, hx, rx⟩ := Sy.vals_get rv hi
    obtain ⟨y, hy, ry⟩ := pl.get hx
    obtain ⟨e, g⟩ := tri x y v ry rx
    rw [e]
    exact g
  refine Calls.call_function_entry kind_sorted plain_sorted entry_sorted (args_sorted1 _) ?_
  unfold Builtin.«sorted»
  refine wpAny_bind (m := checkCount "sorted" 1 1 _) (wpAny_pure ?_)
  refine wpAny_bind (wpAny_collect_seq t (.inr rfl) ho hc hd (fun h1 k1 => ?_) (by rw [List.size_toArray]; exact hv))
  have ev : its.toArray.toList = its := by simp
  refine wpAny_bind (wpAny_newList ?_ (by show its.toArray.toList.length ≤ _; rw [ev]; exact hv))
  rw [ev]
  have hoL : (h1.push (seqObj "list" its.toArray 0)).get? h1.objs.size = some (seqObj "list" its.toArray 0) := Heap.get?_push_size _ rfl
  refine wpAny_bind (wpAny_holding (wpAny_call_entry slot_list_sort ⟨_, hoL, rfl⟩ entry_list_sort (SrtO.list_sort_ord (SrtO.swo_lex fun v => k0 (backV v)) hoL hv (fun h2 => ?_) fun out hs hb => ⟨_, rfl, ?_⟩) (args_list_sort _)))
  · refine SrtO.pairs_sortableO (s := { s with heap := h1.push (seqObj "list" its.toArray 0) }) (k := fun v => k0 (backV v)) (by omega) (fun v hm => (hp v hm).keeps fun b o e _ => Heap.get?_push_of_some _ (k1 b o e)) fun o e => ?_
    have e' : some o = some (seqObj "list" its.toArray 0) := e.symm.trans hoL
    cases e'
    intro c
    exact absurd (Value.type.inj c) (by decide)
  · have hlen : its.length = l.length := by rw [← rv.length, pl.len]
    obtain ⟨T, t1, t2, t3⟩ := Sy.join_up (S := fun (_ : Value) (_ : Iv) => True) pl rv (kv := its) (p2_true hlen)
    have e1 : T.map (fun t => t.2.1) = its := by
      have := congrArg (List.map Prod.snd) t1
      rw [List.map_map, List.map_snd_zip (Nat.le_refl _)] at this
      exact this
    obtain ⟨T', u1, u2⟩ := Sy.perm_up (fun t : Value × Value × V × Iv => t.2.1) hb.perm T e1
    have t3' : ∀ t ∈ T', RelV t.2.2.1 t.2.1 ∧ PrV H t.2.2.1 t.2.2.2 := fun t ht => (t3 t (u1.mem_iff.mp ht)).2
    have hm : (T'.map fun t => t.2.2.2).Perm l := by
      rw [← t2]
      exact u1.map _
    have ls : (T'.map fun t => t.2.2.1).length ≤ sizeLine := by
      rw [List.length_map, ← List.length_map (f := fun t : Value × Value × V × Iv => t.2.2.2), hm.length_eq, ← pl.len]
      exact hz
    obtain ⟨n, hn⟩ := sortedHeap_at (vs := its) (out := out.toArray) hoL
    have rvs : Vals (T'.map fun t => t.2.2.1) out := by rw [← u2]; exact Sy.vals_map fun t ht => (t3' t ht).1
    have keep : ∀ b u, h1.get? b = some u → (sortedHeap (h1.push (seqObj "list" its.toArray 0)) h1.objs.size its out.toArray).get? b = some u := fun b u q => by
      have lt := Heap.lt_size q
      rw [sortedHeap_old (Nat.ne_of_lt lt) (by rw [size_push']; exact Nat.lt_succ_of_lt lt)]
      exact Heap.get?_push_of_some _ q
    have I1 : Inv X pins σ H { s with heap := h1 } := I.kept (t' := s.toks) k1
    refine wpAny_pure ⟨_, rfl, .ref _, upd H h1.objs.size (.lst (T'.map fun t => t.2.2.1)), I1.laid (t' := s.toks) keep (Nat.le_refl _) ⟨ls, out, n, rvs, hn⟩, rfl, q _ (T'.map fun t => t.2.2.2) _ (Sy.p2_map fun t ht => (t3' t ht).2) ?_ hm (I1.hok.fresh (Nat.le_refl _))⟩
    rw [← u2] at hs
    refine List.pairwise_map.mpr ((List.pairwise_map.mp hs).imp_of_mem fun {p q} hp hq z => ?_)
    have z1 := (tri _ _ _ (t3' p hp).2 (t3' p hp).1).1
    have z2 := (tri _ _ _ (t3' q hq).2 (t3' q hq).1).1
    have z3 : SrtO.lexB (k0 (backV q.2.1)) (k0 (backV p.2.1)) = false := z
    rw [z1, z2] at z3
    have := SrtO.lexB_no.mp z3
    unfold Pk.Lx
    omega
end Sz

/-! tuple[::-1] -/
namespace Dk
open PySem PySem.Spec PyProof.Rows L2 PySem.SeqAt PySem.W HT
section
variable {prog : Program} {w : World} {A : Around} {E : Value → Shared → Prop} {s : Shared}
theorem places_rev (n : Nat) : Builtin.Slice.slicePlaces ((n : Int) - 1) (-1) (-1) = n := by
  unfold Builtin.Slice.slicePlaces
  rw [if_neg (by decide)]
  by_cases h : (n : Int) - 1 > -1
  · rw [if_pos h]
    have : ((n : Int) - 1 - -1 - 1) / - -1 + 1 = (n : Int) := by
      rw [Int.neg_neg, Int.ediv_one]
      omega
    rw [this]
    rfl
  · rw [if_neg h]
    have : n = 0 := by omega
    rw [this]
    rfl
theorem sliceApplied_rev {sl : Addr} {vk : Value} {n : Nat} {Q : Int × Int × Nat → Shared → Prop} (hs : s.heap.IsSliceOf sl .none .none vk) (pk : IsPart vk (some (-1)))
    (h : Q ((n : Int) - 1, -1, n) s) : wpAny (model prog w) A (Builtin.Slice.sliceApplied (.ref sl) (pure (n : Int))) Q E s := by
  obtain ⟨os, hos, hcs, hds⟩ := id hs
  unfold Builtin.Slice.sliceApplied Builtin.Slice.sliceFields
  refine wpAny_bind (wpAny_bind (wpAny_field hos hds (x := .none) rfl (wpAny_bind (wpAny_field hos hds (x := .none) rfl (wpAny_bind (wpAny_field hos hds (x := vk) rfl (wpAny_pure ?_)))))))
  refine wpAny_bind (slicePart_ pk ?_)
  show wpAny _ _ (if ((-1 : Int) == 0) = true then _ else _) _ _ s
  rw [if_neg (by decide)]
  refine wpAny_bind (slicePart_ .none (wpAny_bind (slicePart_ .none (wpAny_bind (wpAny_pure ?_)))))
  show wpAny _ _ (pure ((n : Int) - 1, (-1 : Int), Builtin.Slice.slicePlaces ((n : Int) - 1) (-1) (-1))) _ _ s
  rw [places_rev]
  exact wpAny_pure h
theorem pick_rev (xs : Array Value) : ((List.range xs.size).filterMap fun (m : Nat) => xs[(((xs.size : Nat) : Int) - 1 + (m : Int) * -1).toNat]?).toArray = xs.toList.reverse.toArray := by
  have e : (fun (m : Nat) => xs[(((xs.size : Nat) : Int) - 1 + (m : Int) * -1).toNat]?) = fun m => xs[xs.size - 1 - m]? := by
    funext m
    have : (((xs.size : Nat) : Int) - 1 + (m : Int) * -1).toNat = xs.size - 1 - m := by omega
    rw [this]
  rw [e]
  congr 1
  have h1 : ((List.range xs.size).map (fun k => xs.size - 1 - k)).filterMap (xs[·]?) = xs.toList.reverse := by
    rw [krv_range, List.filterMap_reverse]
    congr 1
    exact krv_all xs
  rw [List.filterMap_map] at h1
  exact h1
theorem getItem_tuple_rev {t sl : Addr} {items : Array Value} {vk : Value} {Q : Value → Shared → Prop} (ht : IsTup s.heap t items) (hs : s.heap.IsSliceOf sl .none .none vk) (pk : IsPart vk (some (-1)))
    (h : Q (.ref s.heap.objs.size) { s with heap := s.heap.push { cls := .type "tuple", data := .seq items.toList.reverse.toArray } })
    (hsz : items.size ≤ sizeLine) : wpAny (model prog w) A (getItem (.ref t) (.ref sl)) Q E s := by
  have htake : sizeOk (.seq items.toList.reverse.toArray) := by
    show items.toList.reverse.toArray.size ≤ sizeLine
    rw [List.size_toArray, List.length_reverse, Array.length_toList]
    exact hsz
  obtain ⟨os, hos, hcs, hds⟩ := id hs
  have hTs : s.TypeIs (.ref sl) "slice" := ⟨os, hos, hcs⟩
  unfold getItem
  try with_reducible refine wpAny_holding ?_
  first | refine wpAny_bind (wpAny_pure ?_) | skip
  refine wpAny_bind (wpAny_sequenceKey ht.typeIs (by decide) ?_)
  refine wpAny_bind (wpAny_callSpecial?_slot (name := Str.ofString "__getitem__") ht.typeIs PyProof.Rows.slot_tuple_getitem
    (wpAny_call_entry PyProof.Rows.slot_tuple_getitem ht.typeIs entry_tuple_getitem ?_ (args_tuple_getitem _ _)))
  show wpAny _ _ (Builtin.Tuple.tupleItemsOf (.ref t) >>= _) _ _ s
  refine wpAny_bind (tupleItemsOf_ ht ?_)
  refine wpAny_bind (wpAny_typeOf hTs ?_)
  rw [if_pos (by decide)]
  refine wpAny_bind (sliceApplied_rev hs pk ?_)
  have hno : ¬ ((((items.size : Nat) : Int) - 1 == 0 && (-1 : Int) == 1 && items.size == items.size) = true) := by
    intro q
    rw [Bool.and_eq_true, Bool.and_eq_true] at q
    exact absurd q.1.2 (by decide)
  show wpAny _ _ (if (((items.size : Nat) : Int) - 1 == 0 && (-1 : Int) == 1 && items.size == items.size) = true then _ else _) _ _ s
  rw [if_neg hno, pick_rev]
  first
    | exact wpAny_bind (m := Builtin.Tuple.tupleExact _) (wpAny_newObj_type (wpAny_pure ⟨_, rfl, wpAny_pure h⟩) htake)
    | exact wpAny_bind (m := Builtin.Tuple.tupleExact _) (wpAny_newObj_type (wpAny_bind (wpAny_pure (wpAny_pure ⟨_, rfl, wpAny_pure h⟩))) htake)
    | exact wpAny_bind (wpAny_bind (m := Builtin.Tuple.tupleExact _) (wpAny_newObj_type (wpAny_pure (wpAny_pure ⟨_, rfl, wpAny_pure h⟩)) htake))
    | exact wpAny_bind (wpAny_bind (m := Builtin.Tuple.tupleExact _) (wpAny_newObj_type (wpAny_pure ⟨_, rfl, wpAny_pure h⟩) htake))
end
def tRevT (K : PySem.W.Frag) (te : TE) : TE := fun σ H Q => te σ H fun x H1 => ∃ a xs, x = .ref a ∧ SqT K H1 a xs ∧ ∀ p, H1 p = none → Q (.ref p) (upd H1 p (.tup xs.reverse))
theorem vals_rev : ∀ {xs : List V} {us : List Value}, Vals xs us → Vals xs.reverse us.reverse
  | _, _, .nil => .nil
  | _, _, .cons h t => by
    rw [List.reverse_cons, List.reverse_cons]
    exact (vals_rev t).append (.cons h .nil)
theorem pe_revT {X : Cx} {e st : Expr} {te ts : TE} {pos p2 : Pos} (he : PE X e te) (hst : PE X st ts) (hv : ∀ σ H (Q : VK), Q (.int (-1)) H → ts σ H Q) : PE X (.Subscript e (.Slice none none (some st) p2) pos) (tRevT X.K te) := by
  refine ⟨fun pins s σ H Q I h => ?_⟩
  refine Subscript_ (thn (he.run pins s σ H _ I h) fun v s1 ⟨x, H1, I1, r1, q1⟩ => ?_)
  obtain ⟨a, xs, rfl, hx, q⟩ := q1
  cases r1
  refine wpAny_Slice ?_
  rw [evalPart_none]
  refine wpAny_pure ?_
  refine wpAny_pure ?_
  rw [evalPart_some]
  refine thn (hst.run pins s1 σ H1 _ I1 (hv σ H1 (fun y H2 => y = .int (-1) ∧ H2 = H1) ⟨rfl, rfl⟩)) fun u s2 ⟨y, H2, I2, ry, qy, eH⟩ => ?_
  subst qy eH
  obtain ⟨tk, rfl⟩ := ry
  have I3 : Inv X pins σ H2 { s2 with heap := s2.heap.push { cls := .type "slice", data := .fields #[.none, .none, .int (-1) tk] } } := I2.kept (t' := s2.toks) fun b ob q => Heap.get?_push_of_some _ q
  obtain ⟨its, r, ht, hz⟩ := I3.tuple hx
  have hlen : its.toArray.size = xs.length := by rw [List.size_toArray]; exact r.length.symm
  show wpAny (model X.prog X.w) X.A (subscriptTail e (.Slice none none (some st) p2) (.ref a) (.ref s2.heap.objs.size)) (EP X pins σ Q) X.xe { s2 with heap := s2.heap.push { cls := .type "slice", data := .fields #[.none, .none, .int (-1) tk] } }
  refine tail_any (ops := [.ref a, .ref s2.heap.objs.size]) ht.typeIs PyProof.Rows.slot_tuple_getitem.lookup ?_ (by with_unfolding_all rfl)
  refine getItem_tuple_rev (s := { s2 with heap := s2.heap.push { cls := .type "slice", data := .fields #[.none, .none, .int (-1) tk] } }) ht ⟨_, Heap.get?_push_size _ rfl, rfl, rfl⟩ (.int (-1) tk) ?_ (by rw [hlen]; exact hz)
  refine ⟨.ref _, _, I3.laid (t' := s2.toks) (o := .tup xs.reverse) (fun b ob q => Heap.get?_push_of_some _ q) (Nat.le_refl _) ?_, rfl, q _ (I3.hok.fresh (Nat.le_refl _))⟩
  exact ⟨by rw [List.length_reverse]; exact hz, _, vals_rev r, IsTup.new _ _⟩
theorem r_revT {K : PySem.W.Frag} {te : TE} {σ : L2.St} {H : Hp} {Q : VK} (h : te σ H fun x H1 => ∃ a xs, x = .ref a ∧ SqT K H1 a xs ∧ ∀ p, H1 p = none → Q (.ref p) (upd H1 p (.tup xs.reverse))) : tRevT K te σ H Q := h
end Dk

/-! list[::-1] -/
namespace Dk
open PySem PySem.Spec PyProof.Rows L2 PySem.SeqAt PySem.W HT
def tRevL (K : PySem.W.Frag) (te : TE) : TE := fun σ H Q => te σ H fun x H1 => ∃ a xs, x = .ref a ∧ SqL K H1 a xs ∧ ∀ p, H1 p = none → Q (.ref p) (upd H1 p (.lst xs.reverse))
theorem pe_revL {X : Cx} {e st : Expr} {te ts : TE} {pos p2 : Pos} (he : PE X e te) (hst : PE X st ts) (hv : ∀ σ H (Q : VK), Q (.int (-1)) H → ts σ H Q) : PE X (.Subscript e (.Slice none none (some st) p2) pos) (tRevL X.K te) := by
  refine ⟨fun pins s σ H Q I h => ?_⟩
  refine Subscript_ (thn (he.run pins s σ H _ I h) fun v s1 ⟨x, H1, I1, r1, q1⟩ => ?_)
  obtain ⟨a, xs, rfl, hx, q⟩ := q1
  cases r1
  refine wpAny_Slice ?_
  rw [evalPart_none]
  refine wpAny_pure ?_
  refine wpAny_pure ?_
  rw [evalPart_some]
  refine thn (hst.run pins s1 σ H1 _ I1 (hv σ H1 (fun y H2 => y = .int (-1) ∧ H2 = H1) ⟨rfl, rfl⟩)) fun u s2 ⟨y, H2, I2, ry, qy, eH⟩ => ?_
  subst qy eH
  obtain ⟨tk, rfl⟩ := ry
  have I3 : Inv X pins σ H2 { s2 with heap := s2.heap.push { cls := .type "slice", data := .fields #[.none, .none, .int (-1) tk] } } := I2.kept (t' := s2.toks) fun b ob q => Heap.get?_push_of_some _ q
  obtain ⟨its, r, hl, hz⟩ := I3.list hx
  have ht := hl.isList
  show wpAny (model X.prog X.w) X.A (subscriptTail e (.Slice none none (some st) p2) (.ref a) (.ref s2.heap.objs.size)) (EP X pins σ Q) X.xe { s2 with heap := s2.heap.push { cls := .type "slice", data := .fields #[.none, .none, .int (-1) tk] } }
  refine tail_any (ops := [.ref a, .ref s2.heap.objs.size]) (Heap.IsList.typeIs (s := { s2 with heap := s2.heap.push { cls := .type "slice", data := .fields #[.none, .none, .int (-1) tk] } }) ht) list_getitem_lookup ?_ (by with_unfolding_all rfl)
  refine wpAny_getItem_list_slice (s := { s2 with heap := s2.heap.push { cls := .type "slice", data := .fields #[.none, .none, .int (-1) tk] } }) ht (Heap.IsSliceOf.new ..) .none .none (.int (-1) tk) (by decide) ?_ (by rw [List.size_toArray, ← r.length]; exact hz)
  rw [krv_pick]
  refine ⟨.ref _, _, I3.laid (t' := s2.toks) (o := .lst xs.reverse) (fun b ob q => Heap.get?_push_of_some _ q) (Nat.le_refl _) ?_, rfl, q _ (I3.hok.fresh (Nat.le_refl _))⟩
  exact ⟨by rw [List.length_reverse]; exact hz, its.reverse, 0, vals_rev r, Heap.get?_push_size _ rfl⟩
theorem r_revL {K : PySem.W.Frag} {te : TE} {σ : L2.St} {H : Hp} {Q : VK} (h : te σ H fun x H1 => ∃ a xs, x = .ref a ∧ SqL K H1 a xs ∧ ∀ p, H1 p = none → Q (.ref p) (upd H1 p (.lst xs.reverse))) : tRevL K te σ H Q := h
end Dk

/-! replace of written texts, where what comes before has made a token -/
namespace Dk
open PySem PySem.Spec PyProof.Rows L2 PySem.SeqAt PySem.W HT
/-- behind it a token is out -/
def PE1 (X : Cx) (e : Expr) (te : TE) : Prop := ∀ (pins : List (Addr × Obj)) (s : Shared) (σ : L2.St) (H : Hp) (Q : VK), Inv X pins σ H s → te σ H Q → wpAny (model X.prog X.w) X.A (eval e X.env) (fun v s' => 1 ≤ s'.toks ∧ EP X pins σ Q v s') X.xe s
def PO1 (X : Cx) (e : Option Expr) (te : TO) : Prop := ∀ (pins : List (Addr × Obj)) (s : Shared) (σ : L2.St) (H : Hp) (Q : Option Int → Hp → Prop), Inv X pins σ H s → te σ H Q →
  wpAny (model X.prog X.w) X.A (evalPart e X.env) (fun v s' => 1 ≤ s'.toks ∧ ∃ i H', Inv X pins σ H' s' ∧ IsPart v i ∧ Q i H') X.xe s
section
variable {X : Cx} {o e f : Expr} {te tf : TE} {to : TE} {pos p2 : Pos} {lo hi : Option Expr} {tl th : TO}
theorem pe1_int {i : Int} {j : Nat} : PE1 X (.Constant (.int i) j pos) (tC (.int i)) := fun _ s _ H _ I h => wpAny_Constant_int ⟨Nat.succ_le_succ (Nat.zero_le _), .int i, H, I.tok _, ⟨_, rfl⟩, h⟩
theorem pe1_op {op : Operator} {r : R2} (ho : OpR X (binaryOp op) r) (ha : PE X e te) (hb : PE1 X f tf) : PE1 X (.BinOp e op f pos) (tOp r te tf) := by
  intro pins s σ H Q I h
  refine wpAny_BinOp (thn (ha.run pins s σ H _ I h) fun v s1 ⟨x, H1, I1, r1, q1⟩ => thn (hb pins s1 σ H1 _ I1 q1) fun u s2 ⟨ht, y, H2, I2, r2, q2⟩ => ?_)
  exact wpAny_mono (PySem.wpAny_toks_of ht (ho pins s2 σ H2 x y v u Q I2 r1 r2 q2)) (fun _ _ z => z) fun _ _ z => z.2
theorem po1_some (h : PE1 X e te) : PO1 X (some e) (tPart te) := by
  intro pins s σ H Q I hw
  rw [evalPart_some]
  refine thn (h pins s σ H _ I hw) fun u s1 ⟨ht, x, H1, I1, r1, q1⟩ => ?_
  obtain ⟨i, rfl, q⟩ := q1
  obtain ⟨t, rfl⟩ := r1
  exact ⟨ht, some i, H1, I1, .int i t, q⟩
theorem pe1_sliceH {r : V → Option Int → Option Int → Hp → VK → Prop} (hr : SlR X r) (he : PE X e te) (hl : PO X lo tl) (hu : PO1 X hi th) : PE1 X (.Subscript e (.Slice lo hi none p2) pos) (tSl r te tl th) := by
  intro pins s σ H Q I h
  refine Subscript_ (thn (he.run pins s σ H _ I h) fun v s1 ⟨x, H1, I1, r1, q1⟩ => ?_)
  refine wpAny_Slice (thn (hl.run pins s1 σ H1 _ I1 q1) fun vl s2 ⟨l, H2, I2, pl, q2⟩ => thn (hu pins s2 σ H2 _ I2 q2) fun vu s3 ⟨ht, u, H3, I3, pu, q3⟩ => ?_)
  rw [evalPart_none]
  refine wpAny_pure ?_
  have I4 : Inv X pins σ H3 { s3 with heap := s3.heap.push { cls := .type "slice", data := .fields #[vl, vu, .none] } } := I3.kept (t' := s3.toks) fun b ob q => Heap.get?_push_of_some _ q
  obtain ⟨T, id, hT, hty, hg⟩ := hr pins { s3 with heap := s3.heap.push { cls := .type "slice", data := .fields #[vl, vu, .none] } } σ H3 x v vl vu l u s3.heap.objs.size Q I4 r1 (Heap.IsSliceOf.new ..) pl pu q3
  refine wpAny_mono (PySem.wpAny_toks_of (n := 1) (s := { s3 with heap := s3.heap.push { cls := .type "slice", data := .fields #[vl, vu, .none] } }) ht
    (show wpAny (model X.prog X.w) X.A (subscriptTail e (.Slice lo hi none p2) v (.ref s3.heap.objs.size)) (EP X pins σ Q) X.xe { s3 with heap := s3.heap.push { cls := .type "slice", data := .fields #[vl, vu, .none] } } from
      tail_any (ops := [.ref s3.heap.objs.size, v]) hty hT hg (by with_unfolding_all rfl))) (fun _ _ z => z) fun _ _ z => z.2
theorem pe1_sliceL {r : V → Option Int → Option Int → Hp → VK → Prop} (hr : SlR X r) (he : PE X e te) (hl : PO1 X lo tl) (hu : PO X hi th) : PE1 X (.Subscript e (.Slice lo hi none p2) pos) (tSl r te tl th) := by
  intro pins s σ H Q I h
  refine Subscript_ (thn (he.run pins s σ H _ I h) fun v s1 ⟨x, H1, I1, r1, q1⟩ => ?_)
  refine wpAny_Slice (thn (hl pins s1 σ H1 _ I1 q1) fun vl s2 ⟨h2, l, H2, I2, pl, q2⟩ => wpAny_mono (PySem.wpAny_toks_of h2 (hu.run pins s2 σ H2 _ I2 q2)) (fun vu s3 ⟨ht, u, H3, I3, pu, q3⟩ => ?_) fun _ _ z => z.2)
  rw [evalPart_none]
  refine wpAny_pure ?_
  have I4 : Inv X pins σ H3 { s3 with heap := s3.heap.push { cls := .type "slice", data := .fields #[vl, vu, .none] } } := I3.kept (t' := s3.toks) fun b ob q => Heap.get?_push_of_some _ q
  obtain ⟨T, id, hT, hty, hg⟩ := hr pins { s3 with heap := s3.heap.push { cls := .type "slice", data := .fields #[vl, vu, .none] } } σ H3 x v vl vu l u s3.heap.objs.size Q I4 r1 (Heap.IsSliceOf.new ..) pl pu q3
  refine wpAny_mono (PySem.wpAny_toks_of (n := 1) (s := { s3 with heap := s3.heap.push { cls := .type "slice", data := .fields #[vl, vu, .none] } }) ht
    (show wpAny (model X.prog X.w) X.A (subscriptTail e (.Slice lo hi none p2) v (.ref s3.heap.objs.size)) (EP X pins σ Q) X.xe { s3 with heap := s3.heap.push { cls := .type "slice", data := .fields #[vl, vu, .none] } } from
      tail_any (ops := [.ref s3.heap.objs.size, v]) hty hT hg (by with_unfolding_all rfl))) (fun _ _ z => z) fun _ _ z => z.2
variable {y z : Str} {j k : Nat} {c0 c1 apos : Pos}
theorem pe_repl1 (ho : PE1 X o to) (hyz : (y == z) = false := by decide)
    (hst : starEach [.Constant (.str y) j c0, .Constant (.str z) k c1] X.env = [(false, eval (.Constant (.str y) j c0) X.env), (false, eval (.Constant (.str z) k c1) X.env)] := by rfl)
    (hbase : attributeBase o "replace" X.env (eval o X.env) = eval o X.env := by rfl) (hline : (apos.endLine == pos.line) = true := by rfl) :
    PE X (.Call (.Attribute o "replace" apos) [.Constant (.str y) j c0, .Constant (.str z) k c1] [] pos) (CwR.tReplC to y z) := by
  refine ⟨fun pins s σ H Q I h => ?_⟩
  refine PySem.Call_method2 hbase hst hline (wpAny_mono (ho pins s σ H _ I h) (fun v s1 q => ?_) fun _ _ z => z)
  obtain ⟨hk, v', H1, I1, r1, x, e1, hb, q⟩ := q
  subst e1
  obtain ⟨tx, e2⟩ := r1
  subst e2
  refine ⟨"str", _, PySem.F.plainAttrs_str, PySem.F.slot_str_replace, PySem.F.type_str_replace, typeIs_str _ _ _, (fun _ e => nomatch e), Calls.callWith_builtin rfl (Calls.evalArgs_plain (Calls.spliced_cons ?_))⟩
  refine Calls.Constant_str (Calls.spliced_cons (Calls.Constant_str (Calls.spliced_nil ?_)))
  exact PySem.SC.replace (by show s1.toks ≠ 0; omega) (by show s1.toks + 1 ≠ 0; omega) (by show s1.toks ≠ s1.toks + 1; omega) hyz hb fun t' k => ⟨.str (Txt.replace x y z), H1, I1.tok k, ⟨t', rfl⟩, q⟩
end
end Dk

/-! defs called within an except suite (that never raise there) -/
namespace Dk
open PySem PySem.Spec PyProof.Rows L2
/-- what such a def promises: p's object is the exception that is handled -/
structure FnH0 (P : Program) (w : World) (K : PySem.W.Frag) (mg : Str → Option Value) (base : Heap) (k : Nat) (f : Addr) (fd : FuncData) (ps : List Str) (sp : Sp) : Prop where
  len : ∀ vs H Q E, sp vs H Q E → vs.length = ps.length
  run : ∀ (A : Around) (outer : List Env) (s : Shared) (H : Hp) (args : Args) (us : List Value) (vs : List V) (Q : VK) (E : XK) (p : Addr × Obj), L2H.RoomH k A → A.handled = some (.ref p.1) → L2H.PinOk outer H s p → Env0 P w K mg base A outer s H → BindsTo s fd args (ps.zip us) → Vals vs us → sp vs H Q E →
    codeAny (model P w) A (.call (.ref f) args) (CR CX0 outer P w H s Q E) s
section
variable {P : Program} {w : World} {K : PySem.W.Frag} {mg : Str → Option Value} {base : Heap}
theorem fn_ofH0 {k : Nat} {f : Addr} {name qual : Str} {params : Arguments} {body : List Stmt} {scope : Scope} {dV kV doc pm cdv ct oc : Value} {an od : Option Addr}
    {osl : Array (Option Value)} {N ps : List Str} {sp : Sp} (lk : K.lookup f = some ⟨oc, od, .func (PySem.W.fnOf name qual params body scope dV kV doc pm an cdv ct), osl⟩) (hcd : PySem.W.codeIn K cdv qual = true) (S : FnScope N ps scope)
    (len : ∀ vs H Q E, sp vs H Q E → vs.length = ps.length)
    (hbody : ∀ (A : Around) (outer : List Env) (s : Shared) (H : Hp) (vs : List V) (Q : VK) (E : XK) (p : Addr × Obj), A.handled = some (.ref p.1) → L2H.RoomH k (A.deeper (envOfC qual scope s.heap.objs.size f cdv)) → sp vs H Q E →
      ∃ t, PSs (L2H.cxH CX0 P w K mg base N qual scope f cdv A outer s H E p) body t ∧ t { nx := fun _ H' => Q .non H', rt := Q } (L2.start N vs) H) :
    FnH0 P w K mg base (k + 1) f (PySem.W.fnOf name qual params body scope dV kV doc pm an cdv ct) ps sp := by
  refine ⟨len, fun A outer s H args us vs Q E p hr hot hpin e0 hb r hsp => ?_⟩
  have hl := len _ _ _ _ hsp
  have KX : K.In s.heap := e0.mod.kin.keeps fun b o e => (e0.bs b o e).1
  have lim : s.heap.NoLimit := e0.mod.nolimit.keeps fun b o e => (e0.bs b o e).1
  have hkind : ∀ y ∈ ps.zip us, scope.names.lookup y.1 = some .local ∨ (scope.names.lookup y.1 = some .cell ∧ ((cellsFrom (s.heap.objs.size + 1) scope.names []).lookup y.1).isSome = true) := fun ⟨n, v⟩ hy => by
    rcases S.par n (List.of_mem_zip hy).1 with q | q
    · exact .inl q
    · exact .inr ⟨q, PySem.W.cellsFrom_some _ _ _ (.inl q)⟩
  refine codeAny_call_function hr.depth (KX _ _ lk) rfl S.co S.gen rfl (PySem.W.codeRec_of KX hcd) (hb _ _ _ _ ?_)
  refine wpAny_newFunctionEnv_cells S.kind hkind fun env he s1 x => ?_
  subst he
  refine ⟨lim.keeps x.toInCall.keep, codeAny_func ?_⟩
  obtain ⟨t, ht, hq⟩ := hbody A outer s H vs Q E p hot (hr.deeper _) hsp
  have I : Inv (L2H.cxH CX0 P w K mg base N qual scope f cdv A outer s H E p) [] (L2.start N vs) H s1 := L2H.inv_startH S hpin e0 hl r x
  refine wpAny_mono (ht.run [] s1 (L2.start N vs) H _ I hq) (fun fl s' hs => ?_) fun e s' hs => hs
  have fin : ∀ {σ' : L2.St} {H' : Hp} {v : V} {u : Value}, Inv (L2H.cxH CX0 P w K mg base N qual scope f cdv A outer s H E p) [] σ' H' s' → RelV v u → Q v H' → CE outer P w H s Q u s' :=
    fun {σ' H' v u} J rv q => ⟨v, H', J.os, J.bare, J.base, J.hok, rv, q⟩
  cases fl with
  | ret u =>
    obtain ⟨v, σ', H', J, rv, q⟩ := hs
    exact fin J rv q
  | next =>
    obtain ⟨σ', H', J, q⟩ := hs
    exact fin (v := V.non) (u := Value.none) J rfl q
  | brk =>
    obtain ⟨_, _, _, q⟩ := hs
    exact False.elim q
  | cont =>
    obtain ⟨_, _, _, q⟩ := hs
    exact False.elim q
theorem fun_okH {x qual : Str} {st : Stmt} {f : Addr} {fd : FuncData} {N ps : List Str} {k : Nat} {sp : Sp} (F : Fun K x qual st f fd) (S : FnScope N ps (defScope st)) (len : ∀ vs H Q E, sp vs H Q E → vs.length = ps.length)
    (hbody : ∀ (cdv : Value) (A : Around) (outer : List Env) (s : Shared) (H : Hp) (vs : List V) (Q : VK) (E : XK) (p : Addr × Obj), A.handled = some (.ref p.1) → L2H.RoomH k (A.deeper (envOfC qual (defScope st) s.heap.objs.size f cdv)) → sp vs H Q E →
      ∃ t, PSs (L2H.cxH CX0 P w K mg base N qual (defScope st) f cdv A outer s H E p) (defBody st) t ∧ t { nx := fun _ H' => Q .non H', rt := Q } (start N vs) H) : FnH0 P w K mg base (k + 1) f fd ps sp := by
  obtain ⟨oc, od, kV, doc, pm, an, cdv, ct, osl, rfl, lk, hcd⟩ := F.ex
  exact fn_ofH0 lk hcd S len fun A outer s H vs Q E p h1 h2 hsp => hbody cdv A outer s H vs Q E p h1 h2 hsp
end
section
variable {X : Cx} {k : Nat} {f : Addr} {fd : FuncData} {ps : List Str} {sp : Sp} {x : Str} {q pos : Pos} {e : Expr} {es : List Expr} {t : TA} {p : Addr × Obj}
theorem pe_callH0 (F : FnH0 X.prog X.w X.K X.mg X.base k f fd ps sp) (hr : L2H.RoomH k X.A) (hh : X.A.handled = some (.ref p.1)) (hp : p ∈ X.pn) (hg : Gl X x) (hm : X.mg x = some (.ref f)) (hk : PySem.W.keepIn X.K (.ref f) = true) (hb : Binds X.K fd ps [])
    (ha : PA X (e :: es) t) (hdb : (x == ("__debug__" : Str)) = false := by decide) (he : starEach (e :: es) X.env = (false, eval e X.env) :: starEach es X.env := by rfl) (hpl : (backTo pos (starEach es X.env)).any (·.1) = false := by rfl) :
    PE X (.Call (.Name x q) (e :: es) [] pos) (fun σ H Q => t σ H fun vs H1 => sp vs H1 Q (fun _ _ _ => False)) := by
  refine ⟨fun pins s σ H Q I h => ?_⟩
  refine wpAny_Call_Name_kw (ld_glob I hg hm ?_ hdb)
  refine PySem.W.callWith_K (h₀ := X.base) I.ok.mod.kin hk (thn (ha.run pos pins s σ H _ I h) fun us s1 ⟨vs, H1, I1, r, q⟩ => ⟨I1.kIn, ?_⟩) he hpl
  have hl : us.length = ps.length := by rw [← r.length]; exact F.len _ _ _ _ q
  have b := hb s1 us I1.kIn (by rw [List.append_nil]; exact hl)
  rw [List.append_nil] at b
  have P1 := I1.pin p (List.mem_append_left _ hp)
  have hpin : L2H.PinOk X.stack H1 s1 p := ⟨P1.1, P1.2.1, fun hm => (List.mem_cons.mp (I1.stkSub p.1 hm)).elim P1.2.2.1 P1.2.2.2.1, P1.2.2.2.2⟩
  refine wpAny_call (codeAny_mono (F.run X.A X.stack s1 H1 ⟨us, []⟩ us vs Q _ p hr hh hpin I1.env0 b r q) fun r s' hq => ?_)
  cases r with
  | error e => exact False.elim hq
  | ok fl =>
    cases fl with
    | ret u => exact I1.after hq
    | next => exact False.elim hq
    | brk => exact False.elim hq
    | cont => exact False.elim hq
end
theorem roomS {X : Cx} {a : Addr} {k : Nat} {pn : List (Addr × Obj)} (h : Room k X.A) : L2H.RoomH k (X.suite a pn).A := ⟨h.dp, h.un⟩
end Dk

/-! own classes: methods by keywords, steps for objects, their fields and dicts -/
namespace Dk
open PySem PySem.Spec PyProof.Rows L2
/-- o.m(.., k = v, ..) -/
def tMethK (C : Addr) (m : Str) (sp : Sp) (gV : List V → List V → List V) (E : XK) (ta : TE) (t tk : TA) : TE := fun σ H Q => ta σ H fun x H1 => ∃ a dx fs, x = .ref a ∧ H1 a = some (.ins C dx fs) ∧ fs.lookup m = none ∧
  t σ H1 fun vs H2 => tk σ H2 fun zs H3 => sp (gV (x :: vs) zs) H3 Q E
section
variable {X : Cx} {CX : CXT} {k : Nat} {f C : Addr} {fd : FuncData} {ps ks : List Str} {sp : Sp} {E : XK} {m : Str} {pos apos : Pos} {o e : Expr} {es : List Expr} {kws : List Keyword} {ta : TE} {t tk : TA} {g : List Value → List Value → List Value} {gV : List V → List V → List V}
theorem pe_methK0 {pl : Sem Bool} (he : PE X o ta) (c : Cls X.K C) (hm : Meth X.K C m f) (F : FnOk X.prog X.w X.K X.mg X.base CX k f fd ps sp) (hr : Room k X.A) (hb : KBinds X.K fd ps ks g gV) (hx : Passes CX X E) (hkw : PK X kws tk)
    (hall : (backToKw pos (keywordEach kws X.env)).all (·.1.isSome) = true := by rfl) (hks : (backToKw pos (keywordEach kws X.env)).filterMap (·.1) = ks := by rfl)
    (hpl : ((backTo pos (starEach [] X.env)).any (·.1) || (backToKw pos (keywordEach kws X.env)).any (·.1.isNone)) = false := by rfl)
    (ht : eval (.Call (.Attribute o m apos) [] kws pos) X.env = (do
      let ov ← eval o X.env
      standAt apos.atName
      let (f, first) ← holding [ov] (getMethod ov m pl)
      callWith pos f first (backTo pos (starEach [] X.env)) (backToKw pos (keywordEach kws X.env))) := by rfl) :
    PE X (.Call (.Attribute o m apos) [] kws pos) (tMethK C m sp gV E ta tNil tk) := by
  refine ⟨fun pins s σ H Q I h => ?_⟩
  refine PySem.W.methodCall_KW (pl := pl) (thn (he.run pins s σ H _ I h) fun u s1 ⟨x, H1, I1, rx, a, dx, fs, ex, ea, l, q⟩ => ?_) ht
  subst ex
  obtain rfl : u = Value.ref a := rx
  refine getmeth_ok I1 ea c hm l ?_
  refine PySem.W.callWith_KW0 (first := [.ref a]) (h₀ := X.base) I.ok.mod.kin hm.kp hall ?_ hpl
  refine thn (hkw.run pos pins s1 σ H1 _ I1 q) fun ws s2 ⟨zs, H2, I2, rz, q2⟩ => ⟨I2.kIn, ?_⟩
  rw [hks]
  exact run_fnk (us := [.ref a]) (vs := [.ref a]) F hr hb hx I2 (.cons rfl .nil) rz q2
theorem pe_methK {pl : Sem Bool} (he : PE X o ta) (c : Cls X.K C) (hm : Meth X.K C m f) (F : FnOk X.prog X.w X.K X.mg X.base CX k f fd ps sp) (hr : Room k X.A) (hb : KBinds X.K fd ps ks g gV) (hx : Passes CX X E) (ha : PA X (e :: es) t) (hkw : PK X kws tk)
    (hall : (backToKw pos (keywordEach kws X.env)).all (·.1.isSome) = true := by rfl) (hks : (backToKw pos (keywordEach kws X.env)).filterMap (·.1) = ks := by rfl) (hse : starEach (e :: es) X.env = (false, eval e X.env) :: starEach es X.env := by rfl)
    (hpl : ((backTo pos (starEach (e :: es) X.env)).any (·.1) || (backToKw pos (keywordEach kws X.env)).any (·.1.isNone)) = false := by rfl)
    (ht : eval (.Call (.Attribute o m apos) (e :: es) kws pos) X.env = (do
      let ov ← eval o X.env
      standAt apos.atName
      let (f, first) ← holding [ov] (getMethod ov m pl)
      callWith pos f first (backTo pos (starEach (e :: es) X.env)) (backToKw pos (keywordEach kws X.env))) := by rfl) :
    PE X (.Call (.Attribute o m apos) (e :: es) kws pos) (tMethK C m sp gV E ta t tk) := by
  refine ⟨fun pins s σ H Q I h => ?_⟩
  refine PySem.W.methodCall_KW (pl := pl) (thn (he.run pins s σ H _ I h) fun u s1 ⟨x, H1, I1, rx, a, dx, fs, ex, ea, l, q⟩ => ?_) ht
  subst ex
  obtain rfl : u = Value.ref a := rx
  refine getmeth_ok I1 ea c hm l ?_
  refine PySem.W.callWith_KW (first := [.ref a]) (h₀ := X.base) I.ok.mod.kin hm.kp hall (thn (ha.run pos pins s1 σ H1 _ I1 q) fun us s2 ⟨vs, H2, I2, r, q2⟩ => ?_) hpl hse
  refine thn (hkw.run pos pins s2 σ H2 _ I2 q2) fun ws s3 ⟨zs, H3, I3, rz, q3⟩ => ⟨I3.kIn, ?_⟩
  rw [hks]
  exact run_fnk (us := .ref a :: us) (vs := .ref a :: vs) F hr hb hx I3 (.cons rfl r) rz q3
end
/-- within a comprehension the context's K does not unfold -/
theorem pe_fldK {X : Cx} {K : PySem.W.Frag} {e : Expr} {ta : TE} {f : Str} {pos : Pos} (hK : X.K = K) (he : PE X e ta) (hb : attributeBase e f X.env (eval e X.env) = eval e X.env) : PE X (.Attribute e f pos) (tFld K ta f) := by
  subst hK
  exact pe_fld he hb
/-- a method called within a try -/
def tMethT (C : Addr) (m : Str) (sp : Sp) (E : L2.St → XK) (ta : TE) (t : TA) : TE := fun σ H Q => ta σ H fun x H1 => ∃ a dx fs, x = .ref a ∧ H1 a = some (.ins C dx fs) ∧ fs.lookup m = none ∧ t σ H1 fun vs H2 => sp (x :: vs) H2 Q (E σ)
theorem pe_methT {X : Cx} {CX : CXT} {k : Nat} {f C : Addr} {fd : FuncData} {ps : List Str} {sp : Sp} {E : L2.St → XK} {m : Str} {pos apos : Pos} {o e : Expr} {es : List Expr} {ta : TE} {t : TA} {pl : Sem Bool} (he : PE X o ta) (c : Cls X.K C) (hm : Meth X.K C m f) (F : FnOk X.prog X.w X.K X.mg X.base CX k f fd ps sp) (hr : Room k X.A) (hb : Binds X.K fd ps []) (hx : ∀ σ, PassesAt CX X σ (E σ)) (ha : PA X (e :: es) t)
    (hst : starEach (e :: es) X.env = (false, eval e X.env) :: starEach es X.env := by rfl) (hpl : (backTo pos (starEach es X.env)).any (·.1) = false := by rfl)
    (ht : eval (.Call (.Attribute o m apos) (e :: es) [] pos) X.env = (do
      let ov ← eval o X.env
      standAt apos.atName
      let (f, first) ← holding [ov] (getMethod ov m pl)
      callWith pos f first (backTo pos (starEach (e :: es) X.env)) (backToKw pos (keywordEach [] X.env))) := by rfl) :
    PE X (.Call (.Attribute o m apos) (e :: es) [] pos) (tMethT C m sp E ta t) := by
  refine ⟨fun pins s σ H Q I h => ?_⟩
  refine PySem.W.methodCall_KW (pl := pl) (thn (he.run pins s σ H _ I h) fun u s1 ⟨x, H1, I1, rx, a, dx, fs, ex, ea, l, q⟩ => ?_) ht
  subst ex
  obtain rfl : u = Value.ref a := rx
  refine getmeth_ok I1 ea c hm l ?_
  refine PySem.W.callWith_K (first := [.ref a]) (h₀ := X.base) I1.ok.mod.kin hm.kp (thn (ha.run pos pins s1 σ H1 _ I1 q) fun us s2 ⟨vs, H2, I2, r, q2⟩ => ⟨I2.kIn, ?_⟩) hst hpl
  exact run_fnS (us := .ref a :: us) (vs := .ref a :: vs) F hr hb (hx σ) I2 (.cons rfl r) q2
/-! steps -/
section
variable {K : PySem.W.Frag} {σ : L2.St} {H : Hp} {Q : VK} {D : Ends} {C a dx : Addr} {fs : List (Str × V)} {f m : Str} {v x : V} {sp : Sp} {E : XK} {ta tv : TE} {t tk : TA} {dvs : List V} {n k : Nat} {gV : List V → List V → List V}
/-- a read of a field -/
theorem r_fld (h : ta σ H fun x H1 => ∃ a C dx fs v, x = .ref a ∧ H1 a = some (.ins C dx fs) ∧ Cls K C ∧ NoAttr K C f ∧ fs.lookup f = some v ∧ Q v H1) : tFld K ta f σ H Q := h
theorem r_fldI (h : H a = some (.ins C dx fs)) (c : Cls K C) (na : NoAttr K C f) (l : fs.lookup f = some v) (q : Q v H) : ∃ a' C' dx' fs' v', V.ref a = .ref a' ∧ H a' = some (.ins C' dx' fs') ∧ Cls K C' ∧ NoAttr K C' f ∧ fs'.lookup f = some v' ∧ Q v' H := ⟨a, C, dx, fs, v, rfl, h, c, na, l, q⟩
theorem r_sfld (h : tv σ H fun y H1 => ta σ H1 fun x H2 => ∃ a C dx fs, x = .ref a ∧ H2 a = some (.ins C dx fs) ∧ Cls K C ∧ NoAttr K C f ∧ fs.length < 1000 ∧ D.nx σ (upd H2 a (.ins C dx (putF f y fs)))) : sFld K ta tv f D σ H := h
theorem r_sfldI {N : Hp → Prop} {y : V} (h : H a = some (.ins C dx fs)) (c : Cls K C) (na : NoAttr K C f) (l : fs.length < 1000) (q : N (upd H a (.ins C dx (putF f y fs)))) : ∃ a' C' dx' fs', V.ref a = .ref a' ∧ H a' = some (.ins C' dx' fs') ∧ Cls K C' ∧ NoAttr K C' f ∧ fs'.length < 1000 ∧ N (upd H a' (.ins C' dx' (putF f y fs'))) := ⟨a, C, dx, fs, rfl, h, c, na, l, q⟩
theorem r_meth (h : ta σ H fun x H1 => ∃ a dx fs, x = .ref a ∧ H1 a = some (.ins C dx fs) ∧ fs.lookup m = none ∧ t σ H1 fun vs H2 => sp (x :: (vs ++ dvs)) H2 Q E) : tMeth C m sp dvs E ta t σ H Q := h
theorem r_methK (h : ta σ H fun x H1 => ∃ a dx fs, x = .ref a ∧ H1 a = some (.ins C dx fs) ∧ fs.lookup m = none ∧ t σ H1 fun vs H2 => tk σ H2 fun zs H3 => sp (gV (x :: vs) zs) H3 Q E) : tMethK C m sp gV E ta t tk σ H Q := h
theorem r_methT {E : L2.St → XK} (h : ta σ H fun x H1 => ∃ a dx fs, x = .ref a ∧ H1 a = some (.ins C dx fs) ∧ fs.lookup m = none ∧ t σ H1 fun vs H2 => sp (x :: vs) H2 Q (E σ)) : tMethT C m sp E ta t σ H Q := h
theorem r_makeK (h : t σ H fun vs H1 => tk σ H1 fun zs H2 => vs.length = n ∧ zs.length = k ∧ ∀ x dx, H2 x = none → H2 dx = none → dx ≠ x → sp (gV (.ref x :: vs) zs) (upd (upd H2 dx (.own x)) x (.ins C dx [])) (fun v H3 => v = .non ∧ Q (.ref x) H3) E) : tMakeK C n k sp gV E t tk σ H Q := h
end
end Dk

/-! the word of a caught error: self.__class__.__name__ -/
namespace PySem.W
open PySem PySem.Spec PySem.Calls PyProof.Rows Builtin Builtin.ObjectAttr Builtin.Getset_descriptor
section
variable {prog : Program} {w : World} {A : Around} {E : Value → Shared → Prop} {s : Shared} {K : Frag} {R : Result → Shared → Prop} {D x f : Addr} {ox : Obj} {od : Option Obj} {name : Str}
/-- a plain method of an error (the library's asks for a frame besides) -/
theorem method_exc' {pl : Sem Bool} {Q : Value × List Value → Shared → Prop} (X : K.In s.heap) (I : InstAt s.heap x ox D od) (hga : findIn K (.ref D) "__getattribute__" = some (some (.builtin "BaseException.__getattribute__"))) (hk : findIn K (.ref D) "__getattr__" = some none)
    (hf : findIn K (.ref D) name = some (some (.ref f))) (ht : typeIn K (.ref f) = some (.type "function")) (hs : shadowIn od name = some false) (h : Q (.ref f, [.ref x]) s) :
    wpAny (model prog w) A (getMethod (.ref x) name pl) Q E s := by
  unfold getMethod specialOf
  refine wpAny_bind (wpAny_bind (I.type.here ((looks_findIn X hga).here ?_)))
  dsimp only
  have own_canon : Manifest.canonical "BaseException.__getattribute__" = "object.__getattribute__" := by decide +kernel
  rw [own_canon, if_neg (by decide)]
  refine wpAny_bind (wpAny_bind (I.type.here ((looks_findIn X hk).here ?_)))
  refine wpAny_bind (wpAny_bind (I.type.here ((looks_findIn X hf).here (wpAny_bind ((looks_typeIn X ht).here ?_)))))
  rw [if_neg (by decide +kernel)]
  refine wpAny_bind (wpAny_loadPart I.at_ ?_)
  have hd := I.dict
  cases e : ox.dict with
  | none => exact wpAny_bind (wpAny_rule (wpAny_pure h))
  | some dx =>
    cases od with
    | none => rw [e] at hd; exact hd.elim
    | some o =>
      rw [e] at hd
      obtain ⟨r, a, b⟩ := Option.map_eq_some_iff.mp hs
      refine wpAny_bind (wpAny_bind (wpAny_loadPart hd ?_))
      rw [nsLook_of a]
      refine wpAny_pure ?_
      cases r with
      | none => exact wpAny_bind (wpAny_rule (wpAny_pure h))
      | some y => cases b
/-- C.__name__ of a class that keeps its name -/
theorem tn_get {tp v : Value} {oc : Obj} (X : K.In s.heap) (hc : K.lookup D = some oc) (hty : typeIn K (.ref D) = some (.type "type")) (hv : (oc.slots[2]?).join = some v) (h : R (.ok (.ret v)) s) :
    codeAny (model prog w) A (.call (.builtin "getset_descriptor.__get__") ⟨[.builtin "type.__name__", .ref D, tp], []⟩) R s := by
  obtain ⟨hh, g, dr, t, os⟩ := s
  have L0 : Looks (model prog w) hh (typeOf (.ref D)) (.type "type") := looks_typeIn X hty
  have L1 : Looks (model prog w) hh (isSubtype (.type "type") (.type "type")) true := Looks.of_pure (by rw [isSubtype_type]; kernel_rfl)
  have hoc := X _ _ hc
  have dga : descrGetArgs ⟨[.builtin "type.__name__", .ref D, tp], []⟩ = pure (.builtin "type.__name__", some (.ref D), given tp) := by kernel_rfl
  refine codeAny_call_builtin KF.slot_gs.plain KF.entry_gs (KF.slot_gs.check _ _ _ _ _ _ _ _ ktyn_type (KF.args_gs _ _ _) ?_)
  unfold Builtin.«getset_descriptor.__get__» descrGet
  rw [dga]
  refine wpAny_bind (wpAny_pure ?_)
  unfold descrGetter descrCheckInstance descrNameAndClass isInstance
  simp only [ktyn_owner]
  repeat lk
  refine ⟨Code.quiet_builtin _ (by decide +kernel), codeAny_builtin ktyn_entry ?_⟩
  unfold Builtin.«type.__name__»
  dsimp only
  unfold keptObject slotAt
  dsimp only
  refine wpAny_bind (wpAny_bind (wpAny_loadPart hoc ?_))
  refine wpAny_pure ?_
  rw [hv]
  exact wpAny_pure h
theorem findObj_dataO {C : Addr} {name : Str} {a g : Value} (hc : (clsIn K C).isSome = true) (ha : findIn K (.ref C) name = some (some a)) (hg : specialIn K a "__get__" = some (some g)) (ht : takesIn K a = some true) : findObj K C od name = some (.bind g a) := by
  obtain ⟨cd, hc⟩ := Option.isSome_iff_exists.mp hc
  unfold findObj
  rw [hc, Option.bind_some, ha, Option.bind_some]
  simp [hg, ht]
/-- x.__class__ of an error -/
theorem exc_class {expr : Bool} {Q : Value → Shared → Prop} (hga : findIn K (.ref D) "__getattribute__" = some (some (.builtin "BaseException.__getattribute__"))) (hgt : findIn K (.ref D) "__getattr__" = some none) (hsub : subIn K (.ref D) (.type "BaseException") = some true)
    (hdct : hasDictIn K D = true) (ha : findIn K (.ref D) "__class__" = some (some (.builtin "object.__class__")))
    (hn : specialIn K (.builtin "object.__class__") "__get__" = some (some (.builtin "getset_descriptor.__get__"))) (htk : takesIn K (.builtin "object.__class__") = some true) (hm : mroIn K D (.type "object") = some true)
    (X : K.In s.heap) (I : InstAt s.heap x ox D od) (h : Q (.ref D) { s with toks := s.toks + 1 }) : wpAny (model prog w) A (getAttr (.ref x) "__class__" expr) Q E s := by
  have hf : findObj K D od "__class__" = some (.bind (.builtin "getset_descriptor.__get__") (.builtin "object.__class__")) := findObj_dataO (by obtain ⟨cd, hc, _⟩ := any_some hdct; rw [hc]; rfl) ha hn htk
  obtain ⟨hp, g, d, t, os⟩ := s
  have L0 := I.type (M := model prog w)
  have L1 := looks_findIn (M := model prog w) X hga
  have L2 := looks_findIn (M := model prog w) X hgt
  have L3 := looks_find (M := model prog w) X I hf
  have sub : Looks (model prog w) hp (isInstance (.ref x) (.type "BaseException")) true := L0.andThen (looks_subIn X hsub)
  have hx0 : (expr && onTheHeap (Value.builtin "BaseException.__getattribute__")) = false := by cases expr <;> rfl
  have hx2 : (Value.builtin "BaseException.__getattribute__" == Value.builtin "object.__getattribute__") = false := by decide +kernel
  have hx1 : (onTheHeap (Value.ref D) && Value.builtin "BaseException.__getattribute__" == Value.builtin "object.__getattribute__") = false := by rw [hx2]; rfl
  unfold getAttr getAttrBy
  refine wpAny_bind (wpAny_mkText (wpAny_holding (wpAny_bind (L0.at (wpAny_bind (L1.at ?_))))))
  show wpAny _ _ (if (onTheHeap (Value.ref D) && Value.builtin "BaseException.__getattribute__" == Value.builtin "object.__getattribute__") = true then _ else _) _ _ _
  rw [hx1, if_neg Bool.false_ne_true]
  unfold getAttrByItsOwn hookBefore
  refine wpAny_bind ?_
  rw [if_pos (show onTheHeap (Value.ref D) = true from rfl)]
  refine L2.at ?_
  refine wpAny_bind (wpAny_attempt (wpAny_holding ?_))
  unfold callGetattribute
  rw [hx0, if_neg Bool.false_ne_true]
  unfold boundAndCalled
  rw [PySem.F.excAttr_ValueError.ga.bind (.ref x)]
  refine wpAny_bind (wpAny_pure ?_)
  show wpAny _ _ (call (.builtin "BaseException.__getattribute__") [.ref x, .str "__class__" t]) _ _ _
  refine wpAny_call (codeAny_call_builtin PySem.F.excAttr_ValueError.ga.plain PySem.F.entry_bexc_ga ?_)
  refine @check_slot (model prog w) _ _ ⟨hp, g, d, t + 1, os⟩ "BaseException.__getattribute__" "BaseException" "__getattribute__" (.ref x) [.str "__class__" t] [] _ (by decide +kernel) (by decide +kernel) sub (PySem.F.args_bexc_ga (.ref x) (.str "__class__" t)) ?_
  unfold Builtin.«object.__getattribute__»
  refine wpAny_bind (wpAny_of_eq (a := ((Value.ref x : Value), [Value.str "__class__" t])) (by first | rfl | (simp only [slotArgs]; rfl)) ?_)
  refine wpAny_bind (wpAny_pure (wpAny_bind (L0.at (wpAny_bind (L3.at ?_)))))
  show wpAny _ _ (holding [Value.builtin "object.__class__"] (call (.builtin "getset_descriptor.__get__") [.builtin "object.__class__", .ref x, .ref D]) >>= ret) _ _ _
  refine wpAny_bind (wpAny_holding (wpAny_call (class_get (s := ⟨hp, g, d, t + 1, os⟩) (ox := ox) (od := od) X I hm ?_)))
  refine wpAny_pure ?_
  show wpAny _ _ (handedOut (.ref D)) _ _ _
  rw [handedOut_of (v := .ref D) rfl]
  first
    | exact wpAny_pure (wpAny_pure h)
    | exact wpAny_pure h
    | exact wpAny_pure (wpAny_bind (wpAny_pure (wpAny_pure h)))
/-- C.__name__ -/
theorem cls_word {expr : Bool} {Q : Value → Shared → Prop} {v : Value} {oc : Obj} (X : K.In s.heap) (hc : K.lookup D = some oc) (hty : typeIn K (.ref D) = some (.type "type")) (hv : (oc.slots[2]?).join = some v) (hh : handedIn v = true) (hr : readsIn K D (.type "type") = true)
    (e : findCls K (.ref D) (.type "type") "__name__" = some (.get (.builtin "getset_descriptor.__get__") (.builtin "type.__name__") (.ref D) (.type "type"))) (h : Q v { s with toks := s.toks + 1 }) : wpAny (model prog w) A (getAttr (.ref D) "__name__" expr) Q E s :=
  cls_bind X hr e (wpAny_call (tn_get (s := { s with toks := s.toks + 1 }) X hc hty hv (handed_on hh h)))
end
end PySem.W
open PySem PySem.Spec in
theorem L2H.RoomH.units {k : Nat} {A : Around} (r : L2H.RoomH k A) : A.units + 64 < cLine := by have := r.un; omega
namespace Dk
open PySem PySem.Spec PyProof.Rows L2
/-- what a class must have for x.__class__.__name__ -/
structure XwC (K : PySem.W.Frag) (C : Addr) (y : Str) : Prop where
  xf : XfC K C
  cc : PySem.W.findIn K (.ref C) "__class__" = some (some (.builtin "object.__class__"))
  cg : PySem.W.specialIn K (.builtin "object.__class__") "__get__" = some (some (.builtin "getset_descriptor.__get__"))
  ct : PySem.W.takesIn K (.builtin "object.__class__") = some true
  cm : PySem.W.mroIn K C (.type "object") = some true
  rd : PySem.W.readsIn K C (.type "type") = true
  fc : PySem.W.findCls K (.ref C) (.type "type") "__name__" = some (.get (.builtin "getset_descriptor.__get__") (.builtin "type.__name__") (.ref C) (.type "type"))
  ty : PySem.W.typeIn K (.ref C) = some (.type "type")
  nm : ∃ oc tk, K.lookup C = some oc ∧ (oc.slots[2]?).join = some (.str y tk)
section
variable {X : Cx} {C : Addr} {p : Addr × Obj} {dd : Addr} {te : TE} {e : Expr} {pos : Pos} {y : Str}
/-- e.__class__ of the pinned error -/
theorem pe_xcls (T : XwC X.K C y) (hp : p ∈ X.pn) (hc : p.2.cls = .ref C) (hd : p.2.dict = some dd) (hf : PySem.W.notCls p.2 = true) (he : PE X e te) (hb : attributeBase e "__class__" X.env (eval e X.env) = eval e X.env := by rfl) :
    PE X (.Attribute e "__class__" pos) (fun σ H Q => te σ H fun x H1 => x = .ref p.1 ∧ (∃ fs, H1 dd = some (.xd fs)) ∧ Q (.ref C) H1) := by
  refine ⟨fun pins s σ H Q I h => ?_⟩
  refine attr_of hb (thn (he.run pins s σ H _ I h) fun u s1 hh => ?_)
  obtain ⟨x, H1, I1, rx, ex, ⟨fs, ea⟩, q⟩ := hh
  subst ex
  obtain rfl : u = Value.ref p.1 := rx
  obtain ⟨ha, _⟩ := I1.pin p (List.mem_append_left _ hp)
  have hx : ObjOk X.prog X.w H1 s1.heap dd (.xd fs) := I1.hok dd _ ea
  obtain ⟨mA, hns, hr⟩ := hx
  obtain ⟨od, ho, hl⟩ := lookIn_ns hns
  have J : PySem.W.InstAt s1.heap p.1 p.2 C (some od) := ⟨ha, hc, hf, by rw [hd]; exact ho⟩
  exact PySem.W.exc_class T.xf.ga T.xf.gg T.xf.exC T.xf.hdC T.cc T.cg T.ct T.cm I1.kIn J ⟨.ref C, H1, I1.tok _, rfl, q⟩
/-- C.__name__ -/
theorem pe_cname (T : XwC X.K C y) (he : PE X e te) (hb : attributeBase e "__name__" X.env (eval e X.env) = eval e X.env := by rfl) :
    PE X (.Attribute e "__name__" pos) (fun σ H Q => te σ H fun x H1 => x = .ref C ∧ Q (.str y) H1) := by
  refine ⟨fun pins s σ H Q I h => ?_⟩
  refine attr_of hb (thn (he.run pins s σ H _ I h) fun u s1 hh => ?_)
  obtain ⟨x, H1, I1, rx, ex, q⟩ := hh
  subst ex
  obtain rfl : u = Value.ref C := rx
  obtain ⟨oc, tk, h1, h2⟩ := T.nm
  exact PySem.W.cls_word I1.kIn h1 T.ty h2 rfl T.rd T.fc ⟨.str y, H1, I1.tok _, ⟨tk, rfl⟩, q⟩
end
/-- what such a method promises: it answers the word of p's class -/
structure FnW (P : Program) (w : World) (K : PySem.W.Frag) (mg : Str → Option Value) (base : Heap) (k : Nat) (f : Addr) (fd : FuncData) (ps : List Str) (C : Addr) (y : Str) : Prop where
  run : ∀ (A : Around) (outer : List Env) (s : Shared) (H : Hp) (args : Args) (Q : VK) (E : XK) (p : Addr × Obj) (dd : Addr) (fs : List (Str × V)), L2H.RoomH k A → A.handled = some (.ref p.1) → L2H.PinOk outer H s p → Env0 P w K mg base A outer s H → BindsTo s fd args (ps.zip [.ref p.1]) →
    p.2.cls = .ref C → p.2.dict = some dd → PySem.W.notCls p.2 = true → H dd = some (.xd fs) → Q (.str y) H → codeAny (model P w) A (.call (.ref f) args) (CR CX0 outer P w H s Q E) s
section
variable {P : Program} {w : World} {K : PySem.W.Frag} {mg : Str → Option Value} {base : Heap}
theorem fun_okW {x qual : Str} {st : Stmt} {f : Addr} {fd : FuncData} {N ps : List Str} {k : Nat} {C : Addr} {y : Str} (F : Fun K x qual st f fd) (S : FnScope N ps (defScope st)) (hlen : ps.length = 1)
    (hbody : ∀ (cdv : Value) (A : Around) (outer : List Env) (s : Shared) (H : Hp) (Q : VK) (E : XK) (p : Addr × Obj) (dd : Addr) (fs : List (Str × V)), A.handled = some (.ref p.1) → L2H.RoomH k (A.deeper (envOfC qual (defScope st) s.heap.objs.size f cdv)) → p.2.cls = .ref C → p.2.dict = some dd → PySem.W.notCls p.2 = true → H dd = some (.xd fs) → Q (.str y) H →
      ∃ t, PSs (L2H.cxH CX0 P w K mg base N qual (defScope st) f cdv A outer s H E p) (defBody st) t ∧ t { nx := fun _ H' => Q .non H', rt := Q } (start N [.ref p.1]) H) : FnW P w K mg base (k + 1) f fd ps C y := by
  obtain ⟨oc, od, kV, doc, pm, an, cdv, ct, osl, rfl, lk, hcd⟩ := F.ex
  refine ⟨fun A outer s H args Q E p dd fs hr hot hpin e0 hb h6 h7 h8 h9 h10 => ?_⟩
  have r : Vals [V.ref p.1] [Value.ref p.1] := .cons rfl .nil
  have hl : [V.ref p.1].length = ps.length := hlen.symm
  have KX : K.In s.heap := e0.mod.kin.keeps fun b o e => (e0.bs b o e).1
  have lim : s.heap.NoLimit := e0.mod.nolimit.keeps fun b o e => (e0.bs b o e).1
  have hkind : ∀ y ∈ ps.zip [Value.ref p.1], (defScope st).names.lookup y.1 = some .local ∨ ((defScope st).names.lookup y.1 = some .cell ∧ ((cellsFrom (s.heap.objs.size + 1) (defScope st).names []).lookup y.1).isSome = true) := fun ⟨n, v⟩ hy => by
    rcases S.par n (List.of_mem_zip hy).1 with q | q
    · exact .inl q
    · exact .inr ⟨q, PySem.W.cellsFrom_some _ _ _ (.inl q)⟩
  refine codeAny_call_function hr.depth (KX _ _ lk) rfl S.co S.gen rfl (PySem.W.codeRec_of KX hcd) (hb _ _ _ _ ?_)
  refine wpAny_newFunctionEnv_cells S.kind hkind fun env he s1 x => ?_
  subst he
  refine ⟨lim.keeps x.toInCall.keep, codeAny_func ?_⟩
  obtain ⟨t, ht, hq⟩ := hbody cdv A outer s H Q E p dd fs hot (hr.deeper _) h6 h7 h8 h9 h10
  have I := L2H.inv_startH (CX := CX0) (E := E) S hpin e0 hl r x
  refine wpAny_mono (ht.run [] s1 (L2.start N [.ref p.1]) H _ I hq) (fun fl s' hs => ?_) fun e s' hs => hs
  have fin : ∀ {σ' : L2.St} {H' : Hp} {v : V} {u : Value}, Inv (L2H.cxH CX0 P w K mg base N qual (defScope st) f cdv A outer s H E p) [] σ' H' s' → RelV v u → Q v H' → CE outer P w H s Q u s' :=
    fun {σ' H' v u} J rv q => ⟨v, H', J.os, J.bare, J.base, J.hok, rv, q⟩
  cases fl with
  | ret u =>
    obtain ⟨v, σ', H', J, rv, q⟩ := hs
    exact fin J rv q
  | next =>
    obtain ⟨σ', H', J, q⟩ := hs
    exact fin (v := V.non) (u := Value.none) J rfl q
  | brk =>
    obtain ⟨_, _, _, q⟩ := hs
    exact False.elim q
  | cont =>
    obtain ⟨_, _, _, q⟩ := hs
    exact False.elim q
end
section
variable {X : Cx} {k : Nat} {f C dd : Addr} {fd : FuncData} {ps : List Str} {y m : Str} {oe : Obj} {e : Expr} {te : TE} {pos apos : Pos} {a : Addr} {cls : Value} {d : Option Addr} {pn : List (Addr × Obj)}
/-- the call of such a method in a suite -/
theorem pe_word {pl : Sem Bool} (F : FnW X.prog X.w X.K X.mg X.base k f fd ps C y) (hr : Room k X.A) (T : XwC X.K C y) (hfi : PySem.W.findIn X.K (.ref C) m = some (some (.ref f))) (hty : PySem.W.typeIn X.K (.ref f) = some (.type "function")) (hkp : PySem.W.keepIn X.K (.ref f) = true)
    (hb : Binds X.K fd ps []) (hlen : ps.length = 1) (hz : Zc cls d oe) (hf : ∃ vs, oe.data = .fields vs) (he : PE (X.suite a ((a, oe) :: pn)) e te)
    (ht : eval (.Call (.Attribute e m apos) [] [] pos) X.env = (do
      let ov ← eval e X.env
      standAt apos.atName
      let (f, first) ← holding [ov] (getMethod ov m pl)
      callWith pos f first [] []) := by rfl) :
    PE (X.suite a ((a, oe) :: pn)) (.Call (.Attribute e m apos) [] [] pos) (fun σ H Q => te σ H fun x H1 => x = .ref a ∧ cls = .ref C ∧ d = some dd ∧ ∃ fs, H1 dd = some (.xd fs) ∧ fs.lookup m = none ∧ Q (.str y) H1) := by
  refine ⟨fun pins s σ H Q I h => ?_⟩
  refine PySem.W.methodCall_KW (pl := pl) (thn (he.run pins s σ H _ I h) fun u s1 ⟨x, H1, I1, rx, ex, ec, ed, fs, ea, l, q⟩ => ?_) ht
  subst ex
  obtain rfl : u = Value.ref a := rx
  subst ec
  subst ed
  have P1 := I1.pin (a, oe) (List.mem_append_left _ List.mem_cons_self)
  obtain ⟨vs, hd⟩ := hf
  obtain ⟨mA, hns, hrr⟩ : ObjOk X.prog X.w H1 s1.heap dd (.xd fs) := I1.hok dd _ ea
  obtain ⟨od, ho, hl⟩ := lookIn_ns hns
  have hnc : PySem.W.notCls oe = true := by unfold PySem.W.notCls; rw [hd] <;> rfl
  have J : PySem.W.InstAt s1.heap a oe C (some od) := ⟨P1.1, hz.1, hnc, by rw [hz.2]; exact ho⟩
  have hn : mA m = none := RelO.none_of (by rw [← l]; exact hrr m)
  refine PySem.W.method_exc' I1.kIn J T.xf.ga T.xf.gg hfi hty (by show (PySem.W.lookIn m od).map _ = _; rw [hl m, hn]; rfl) ?_
  refine PySem.W.callWith_K0 (first := [.ref a]) I1.kIn hkp ?_
  have b := hb s1 [.ref a] I1.kIn (by rw [List.append_nil]; exact hlen.symm)
  rw [List.append_nil] at b
  have hpin : L2H.PinOk (X.suite a ((a, oe) :: pn)).stack H1 s1 (a, oe) := ⟨P1.1, P1.2.1, fun hm => (List.mem_cons.mp (I1.stkSub a hm)).elim P1.2.2.1 P1.2.2.2.1, P1.2.2.2.2⟩
  refine wpAny_call (codeAny_mono (F.run (X.suite a ((a, oe) :: pn)).A (X.suite a ((a, oe) :: pn)).stack s1 H1 ⟨[.ref a], []⟩ _ (fun _ _ _ => False) (a, oe) dd fs (roomS hr) rfl hpin I1.env0 b hz.1 hz.2 hnc ea q) fun r s' hq => ?_)
  cases r with
  | error e => exact False.elim hq
  | ok fl =>
    cases fl with
    | ret u => exact I1.after hq
    | next => exact False.elim hq
    | brk => exact False.elim hq
    | cont => exact False.elim hq
end
end Dk

/-! name = {k: v for ..} on one line, the name a local -/
namespace Dk
open PySem PySem.Spec PyProof.Rows L2
section
variable {X : Cx}
theorem sw_trueD {kx vx : Expr} {gs : List Comprehension} {scope : Scope} {pos py : Pos} {y : Str} {l : Nat} {env : Env} (hk : env.scope.kind = .function) (hy : env.scope.names.lookup y = some .local) (hl : (py.line == pos.line) = true)
    (ha : (scope.names.any fun (n, k) => n == y && (k == .local || k == .cell)) = false) : swapsWith (.DictComp kx vx gs scope pos) (some (.Name y py)) l env = pure true := by
  have ky : env.kindOf y = some .local := hy
  have hb : env.blockKind = .function := by unfold Env.blockKind; rw [hk]; rfl
  unfold swapsWith
  simp only [hb, ky, ha, Expr.pos, hl]
  rfl
theorem ps_setDc {i : Nat} {y : Str} {py : Pos} {kx vx tg iter : Expr} {ifs : List Expr} {scope : Scope} {own : List (Str × Nat)} {pos spos : Pos} {wi : TI} {g : TG} {tt : TT} {tk tv : TE} (hc : X.calm = true) (hN : X.N.Nodup) (hy : X.N[i]? = some y) (hyl : X.env.scope.names.lookup y = some .local)
    (hsw : swapsWith (.DictComp kx vx [⟨tg, iter, ifs, 0⟩] scope pos) (some (.Name y py)) spos.line X.env = pure true) (hi : PI X tg iter wi) (ok : BlkOk X.N X.env.scope scope own)
    (hg : ∀ (s : Shared) (H : Hp) (C : Addr) (cl : List (Str × Addr)) (fp : List Addr), PG (X.blk s H scope (compEnvC scope cl C X.env) fp) tg g) (ht : ∀ (s : Shared) (H : Hp) (C : Addr) (cl : List (Str × Addr)) (fp : List Addr), PTs (X.blk s H scope (compEnvC scope cl C X.env) fp) ifs tt)
    (hk : ∀ (s : Shared) (H : Hp) (C : Addr) (cl : List (Str × Addr)) (fp : List Addr), PE (X.blk s H scope (compEnvC scope cl C X.env) fp) kx tk)
    (he : ∀ (s : Shared) (H : Hp) (C : Addr) (cl : List (Str × Addr)) (fp : List Addr), PE (X.blk s H scope (compEnvC scope cl C X.env) fp) vx tv) (hs : ∀ x, foldedSetIterable iter X.env x = pure x := by intro _; rfl) :
    PS X (.Assign [.Name y py] (.DictComp kx vx [⟨tg, iter, ifs, 0⟩] scope pos) spos) (tAsg (tDc wi g tt tk tv (own.map (·.2))) (gName i)) := by
  refine ⟨fun pins s σ H D I h => ?_⟩
  rw [exec_Assign_Name_used _ _ _ _ hsw]
  refine wpAny_bind (wpAny_standAt (wpAny_bind ?_))
  show wpAny _ X.A (do let _ ← comprehension (.DictComp kx vx [⟨tg, iter, ifs, 0⟩] scope pos) scope X.env (firstIterPos [⟨tg, iter, ifs, 0⟩] pos) newDict false (eval iter X.env) (some (assign (.Name y py) X.env))) _ _ s
  have h : tDc wi g tt tk tv (own.map (·.2)) σ H (fun x H1 => gName i x σ H1 D.nx) := h
  refine wpAny_bind (thn (dc_core (Qf := fun _ s' => SP X pins D .next s') hc hN I hi ok hg ht hk he hs h fun L C s' m H' I' q hn f => ?_) fun _ s' hq => wpAny_pure (wpAny_pure hq))
  show wpAny _ _ (assign (.Name y py) X.env (.ref L)) _ _ _
  refine wpAny_assign_Name (store_ok2 (v := V.ref L) I' hN hy (.inl hyl) rfl (fun s2 I2 ⟨a, sb, ha⟩ => ?_) (.inr hyl))
  obtain ⟨f0, f1, f2, f3, f4, f5⟩ := f
  have haC : C ≠ a := by
    rcases ha with z | z
    · rw [z]; exact f1
    · exact fun e => f4 y a z e.symm
  refine ⟨m, hn.sameBut sb haC, fun h3 sb3 => ?_⟩
  exact ⟨_, H', I2.turned (t' := s2.toks) (fun b o hb e => (sb3.2 b hb).trans e) f0 f1 f3 f4 f5, q⟩
end
end Dk

/-! dicts whose keys are tuples that may stand in the written part -/
namespace Tc
open PySem PySem.Spec PyProof.Rows L2
abbrev Pr := List Key × Addr × V
abbrev Rl : List Pr → List (List Key × Addr × Value) → Prop := Paired fun p q => p.1 = q.1 ∧ p.2.1 = q.2.1 ∧ RelV p.2.2 q.2.2
def valC (l : List Pr) (k : List Key) : Option V := (l.find? fun p => decide (p.1 = k)).map (·.2.2)
def DcOk (P : Program) (w : World) (a : Addr) (l : List Pr) (h : Heap) : Prop :=
  ∃ xs, Rl l xs ∧ ∃ o es ep, h.get? a = some o ∧ o.ExactDict ∧ o.data = .dict es ep ∧ es.toList = xs.map (entryOfKey (tupleKind (mixKind P w))) ∧ (xs.map (·.1)).Nodup
def DcO (P : Program) (w : World) (a : Addr) (l : List Pr) : HO := .ext (DcOk P w a l)
structure Dc (P : Program) (w : World) (K : PySem.W.Frag) (H : Hp) (a : Addr) (l : List Pr) : Prop where
  at_ : H a = some (DcO P w a l)
  sz : l.length ≤ sizeLine
  ns : (a == sysModules) = false
  ks : ∀ p ∈ l, SqT K H p.2.1 (p.1.map kV)
theorem rl_val {l : List Pr} {xs : List (List Key × Addr × Value)} (r : Rl l xs) (k : List Key) : RelO (valC l k) ((atKey xs k).map (·.2)) := by
  induction r with
  | nil => exact True.intro
  | @cons p q ps qs h t ih =>
    obtain ⟨h1, _, h2⟩ := h
    unfold valC atKey at ih ⊢
    rw [List.find?_cons, List.find?_cons]
    by_cases e : p.1 = k
    · rw [decide_eq_true e, decide_eq_true (h1.symm.trans e)]
      exact h2
    · rw [decide_eq_false e, decide_eq_false (fun z => e (h1.trans z))]
      exact ih
section
variable {X : Cx} {pins : List (Addr × Obj)} {σ : L2.St} {H : Hp} {s : Shared} {a b : Addr} {l : List Pr} {k : List Key} {A : Around} {E : Value → Shared → Prop}
theorem key_is (I : Inv X pins σ H s) (h : SqT X.K H b (k.map kV)) : (tupleKind (mixKind X.prog X.w)).is s.heap k b := by
  obtain ⟨its, r, ⟨o, h1, h2, n, h3⟩, _⟩ := I.tuple h
  exact ⟨o, its.toArray, n, h1, h2, h3, by simpa using items_are r⟩
theorem dc_of (I : Inv X pins σ H s) (d : Dc X.prog X.w X.K H a l) : ∃ xs, Rl l xs ∧ s.heap.DictOfH (tupleKind (mixKind X.prog X.w)) a xs := by
  obtain ⟨⟨xs, r, o, es, ep, h1, h2, h3, h4, h5⟩, _, _⟩ := (show ObjOk X.prog X.w H s.heap a (DcO X.prog X.w a l) from I.hok a _ d.at_)
  refine ⟨xs, r, o, es, ep, h1, h2, h3, h4, fun x hx => ?_, h5⟩
  have all : ∀ {l : List Pr} {m : List (List Key × Addr × Value)}, Rl l m → (∀ p ∈ l, SqT X.K H p.2.1 (p.1.map kV)) → ∀ x ∈ m, (tupleKind (mixKind X.prog X.w)).is s.heap x.1 x.2.1 := by
    intro l m q
    induction q with
    | nil => intro _ x hx; exact nomatch hx
    | @cons p q ps qs hq t ih =>
      intro hk x hx
      rcases List.mem_cons.mp hx with e | hx
      · subst e
        rw [← hq.1, ← hq.2.1]
        exact key_is I (hk p (List.mem_cons_self ..))
      · exact ih (fun p hp => hk p (List.mem_cons_of_mem _ hp)) x hx
  exact all r d.ks x hx
theorem dc_ok {P : Program} {w : World} {H : Hp} {h : Heap} (d : DcOk P w a l h) : ObjOk P w H h a (DcO P w a l) := by
  refine ⟨d, ?_, fun h1 h2 q st => ?_⟩
  · obtain ⟨xs, r, o, es, ep, h1, _⟩ := d
    exact ⟨o, h1⟩
  · obtain ⟨xs, r, o, es, ep, g1, g2⟩ := q
    exact ⟨xs, r, o, es, ep, st _ g1, g2⟩
theorem c_get {v : V} {Q : Value → Shared → Prop} (hu : A.units + 1 < cLine) (I : Inv X pins σ H s) (d : Dc X.prog X.w X.K H a l) (hk : SqT X.K H b (k.map kV)) (hv : valC l k = some v) (h : ∀ w' s', Inv X pins σ H s' → RelV v w' → Q w' s') :
    wpAny (model X.prog X.w) A (getItem (.ref a) (.ref b)) Q E s := by
  obtain ⟨xs, r, dd⟩ := dc_of I d
  obtain ⟨w', hw, rw'⟩ := RelO.some_of (v := v) (o := (atKey xs k).map (·.2)) (by rw [← hv]; exact rl_val r k)
  obtain ⟨p, hp, hp2⟩ := Option.map_eq_some_iff.mp hw
  refine wpAny_getItem_heap (tupleKind_room_in1 hu) (key_is I hk) dd hp ?_
  rw [hp2]
  exact h w' _ (I.tok _) rw'
theorem c_in {Q : Value → Shared → Prop} (hu : A.units + 1 < cLine) (I : Inv X pins σ H s) (d : Dc X.prog X.w X.K H a l) (hk : SqT X.K H b (k.map kV)) (h : ∀ s', Inv X pins σ H s' → Q (.bool (valC l k).isSome) s') :
    wpAny (model X.prog X.w) A (compareOp .In (.ref b) (.ref a)) Q E s := by
  obtain ⟨xs, r, dd⟩ := dc_of I d
  refine wpAny_in_heap (tupleKind_room_in1 hu) (key_is I hk) d.ns dd ?_
  have q := (rl_val r k).isSome_eq
  rw [Option.isSome_map] at q
  rw [← q]
  exact h _ (I.tok _)
theorem c_put {v : V} {u : Value} {Q : Unit → Shared → Prop} (hu : A.units + 1 < cLine) (I : Inv X pins σ H s) (d : Dc X.prog X.w X.K H a l) (hk : SqT X.K H b (k.map kV)) (hn : valC l k = none) (hl : l.length < sizeLine) (rv : RelV v u)
    (h : ∀ s', Inv X pins σ (upd H a (DcO X.prog X.w a (l ++ [(k, b, v)]))) s' → Q () s') : wpAny (model X.prog X.w) A (setItem (.ref a) (.ref b) u) Q E s := by
  obtain ⟨xs, r, dd⟩ := dc_of I d
  have hx : atKey xs k = none := by
    have q := rl_val r k
    rw [hn] at q
    cases e : atKey xs k with
    | none => rfl
    | some p => rw [e] at q; exact q.elim
  have hz : xs.length ≤ sizeLine := by rw [← Paired.length r]; exact d.sz
  refine wpAny_setItem_heap (hsz := hz) (tupleKind_room_in1 hu) (key_is I hk) dd fun h' dd' hs => h _ ?_
  rw [storedH_new hx] at dd'
  obtain ⟨q, es, ep, hq, h2, h3, h4, _, h5⟩ := dd'
  refine I.write (x := a) (e := a) (by rw [d.at_]; exact True.intro) (.inl rfl) (fun b q hb z => (hs.2 b hb).trans z) ⟨q, hq⟩ (dc_ok ?_)
  exact ⟨_, Paired.snoc r ⟨rfl, rfl, rv⟩, q, es, ep, hq, h2, h3, h4, h5⟩
end
section
variable {X : Cx} {P : Program} {w : World} {K : PySem.W.Frag} {o i e value : Expr} {pos pos' tpos : Pos} {td ty tv : TE}
def tNewC (P : Program) (w : World) : TE := fun _ H Q => ∀ p, H p = none → (p == sysModules) = false → Q (.ref p) (upd H p (DcO P w p []))
def tInC (P : Program) (w : World) (K : PySem.W.Frag) (ty td : TE) : TE := fun σ H Q => ty σ H fun y H1 => td σ H1 fun x H2 => ∃ a b l k, x = .ref a ∧ y = .ref b ∧ Dc P w K H2 a l ∧ SqT K H2 b (k.map kV) ∧ Q (.bl (valC l k).isSome) H2
def tGetC (P : Program) (w : World) (K : PySem.W.Frag) (td ty : TE) : TE := fun σ H Q => td σ H fun x H1 => ty σ H1 fun y H2 => ∃ a b l k v, x = .ref a ∧ y = .ref b ∧ Dc P w K H2 a l ∧ SqT K H2 b (k.map kV) ∧ valC l k = some v ∧ Q v H2
def sPutC (P : Program) (w : World) (K : PySem.W.Frag) (td ty tv : TE) : TS := fun D σ H => tv σ H fun v H1 => td σ H1 fun x H2 => ty σ H2 fun y H3 => ∃ a b l k, x = .ref a ∧ y = .ref b ∧ Dc P w K H3 a l ∧ SqT K H3 b (k.map kV) ∧ valC l k = none ∧ l.length < sizeLine ∧ D.nx σ (upd H3 a (DcO P w a (l ++ [(k, b, v)])))
def rLenC (P : Program) (w : World) (K : PySem.W.Frag) : List V → Hp → VK → Prop := fun xs H Q => ∃ a l, xs = [.ref a] ∧ Dc P w K H a l ∧ Q (.int (l.length : Nat)) H
theorem pe_newC (hP : X.prog = P) (hw : X.w = w) : PE X (.Dict [] [] pos) (tNewC P w) := ⟨fun pins s σ H Q I h => by
  subst hP hw
  have ns : (s.heap.objs.size == sysModules) = false := beq_eq_false_iff_ne.mpr (Ne.symm (Nat.ne_of_lt I.big))
  exact wpAny_Dict_empty ⟨.ref s.heap.objs.size, _, I.laid (a := s.heap.objs.size) (o := DcO X.prog X.w s.heap.objs.size []) (t' := s.toks) (fun _ _ q => Heap.get?_push_of_some _ q) (Nat.le_refl _) (dc_ok ⟨[], .nil, _, #[], 0, Heap.get?_push_size _ rfl, ⟨rfl, rfl, rfl⟩, rfl, rfl, List.nodup_nil⟩), rfl, h _ (I.hok.fresh (Nat.le_refl _)) ns⟩⟩
theorem pc_inC (hP : X.prog = P) (hw : X.w = w) (hK : X.K = K) (hu : X.A.units + 1 < cLine) (hi : PE X i ty) (ho : PE X o td) : PC X .In i o (tInC P w K ty td) := by
  subst hP hw hK
  refine ⟨fun pins s σ H Q I h => ?_⟩
  refine thn (hi.run pins s σ H _ I h) fun iv s1 ⟨y, H1, I1, ry, q1⟩ => thn (ho.run pins s1 σ H1 _ I1 q1) fun u s2 ⟨x, H2, I2, rx, a, b, l, k, ex, ey, d, hk, q2⟩ => ?_
  subst ex ey
  obtain rfl : u = Value.ref a := rx
  obtain rfl : iv = Value.ref b := ry
  exact c_in hu I2 d hk fun s3 I3 => ⟨.bl (valC l k).isSome, H2, I3, rfl, q2⟩
theorem pe_getC (hP : X.prog = P) (hw : X.w = w) (hK : X.K = K) (hu : X.A.units + 1 < cLine) (ho : PE X o td) (hi : PE X i ty) (hs : NoSl i) : PE X (.Subscript o i pos) (tGetC P w K td ty) := by
  subst hP hw hK
  refine ⟨fun pins s σ H Q I h => ?_⟩
  refine subD_of PySem.F.slot_dict_getitem.lookup hs (thn (ho.run pins s σ H _ I h) fun u s1 ⟨x, H1, I1, rx, q1⟩ => thn (hi.run pins s1 σ H1 _ I1 q1) fun iv s2 ⟨y, H2, I2, ry, a, b, l, k, v, ex, ey, d, hk, hv, q2⟩ => ?_)
  subst ex ey
  obtain rfl : u = Value.ref a := rx
  obtain rfl : iv = Value.ref b := ry
  obtain ⟨xs, _, dd⟩ := dc_of I2 d
  exact ⟨dd.typeIs, c_get hu I2 d hk hv fun w' s3 I3 rw' => ⟨v, H2, I3, rw', q2⟩⟩
theorem ps_putC (hP : X.prog = P) (hw : X.w = w) (hK : X.K = K) (hu : X.A.units + 1 < cLine) (ho : PE X o td) (hi : PE X i ty) (hv : PE X value tv) (hs : swapsWith value (some (.Subscript o i pos')) pos.line X.env = pure false) :
    PS X (.Assign [.Subscript o i pos'] value pos) (sPutC P w K td ty tv) := by
  subst hP hw hK
  refine ⟨fun pins s σ H D I h => ?_⟩
  refine wpAny_Assign_Subscript (thn (hv.run pins s σ H _ I h) fun r s1 ⟨v, H1, I1, rv, q1⟩ => thn (ho.run pins s1 σ H1 _ I1 q1) fun u s2 ⟨x, H2, I2, rx, q2⟩ => thn (hi.run pins s2 σ H2 _ I2 q2) fun iv s3 ⟨y, H3, I3, ry, a, b, l, k, ex, ey, d, hk, hn, hl, q3⟩ => ?_) hs
  subst ex ey
  obtain rfl : u = Value.ref a := rx
  obtain rfl : iv = Value.ref b := ry
  exact c_put hu I3 d hk hn hl rv fun s4 I4 => ⟨σ, _, I4, q3⟩
def rSetC (P : Program) (w : World) (K : PySem.W.Frag) : TSet := fun o i v H N => ∃ a b l k, o = .ref a ∧ i = .ref b ∧ Dc P w K H a l ∧ SqT K H b (k.map kV) ∧ valC l k = none ∧ l.length < sizeLine ∧ N (upd H a (DcO P w a (l ++ [(k, b, v)])))
theorem set_C (hP : X.prog = P) (hw : X.w = w) (hK : X.K = K) (hu : X.A.units + 1 < cLine) : PSet X (rSetC P w K) := by
  subst hP hw hK
  intro pins s σ H o i v ov iv u Q I ro ri rv h
  obtain ⟨a, b, l, k, rfl, rfl, d, hk, hn, hl, q⟩ := h
  obtain rfl : ov = Value.ref a := ro
  obtain rfl : iv = Value.ref b := ri
  exact c_put hu I d hk hn hl rv fun s' I' => ⟨_, I', q⟩
theorem call_lenC (hP : X.prog = P) (hw : X.w = w) (hK : X.K = K) : CallR X (.builtin "len") (rLenC P w K) := by
  subst hP hw hK
  intro pins s σ H xs us Q I r h
  obtain ⟨a, l, rfl, d, q⟩ := h
  obtain ⟨u, rfl, rx⟩ := vals1 r
  obtain rfl : u = .ref a := rx
  obtain ⟨ys, rel, dd⟩ := dc_of I d
  have hl : l.length = ys.length := Paired.length rel
  have := d.sz
  refine call_len_dictH d.ns dd (by rw [← hl]; rw [sizeLine_eq] at this; omega) ?_
  rw [← hl]
  exact ⟨.int ((l.length : Nat) : Int), H, I.tok _, ⟨_, rfl⟩, q⟩
end
/-! ### steps -/
section
variable {P : Program} {w : World} {K : PySem.W.Frag} {H H' : Hp} {a : Addr} {l : List Pr}
theorem Dc.up (e : ∀ x xs, SqT K H x xs → SqT K H' x xs) (h : H' a = some (DcO P w a l)) (d : Dc P w K H a l) : Dc P w K H' a l := ⟨h, d.sz, d.ns, fun p hp => e _ _ (d.ks p hp)⟩
theorem r_newC {σ : L2.St} {Q : VK} (h : ∀ p, H p = none → (p == sysModules) = false → Q (.ref p) (upd H p (DcO P w p []))) : tNewC P w σ H Q := h
theorem r_inC {σ : L2.St} {ty td : TE} {Q : VK} (h : ty σ H fun y H1 => td σ H1 fun x H2 => ∃ a b l k, x = .ref a ∧ y = .ref b ∧ Dc P w K H2 a l ∧ SqT K H2 b (k.map kV) ∧ Q (.bl (valC l k).isSome) H2) : tInC P w K ty td σ H Q := h
theorem r_getC {σ : L2.St} {ty td : TE} {Q : VK} (h : td σ H fun x H1 => ty σ H1 fun y H2 => ∃ a b l k v, x = .ref a ∧ y = .ref b ∧ Dc P w K H2 a l ∧ SqT K H2 b (k.map kV) ∧ valC l k = some v ∧ Q v H2) : tGetC P w K td ty σ H Q := h
theorem r_putC {σ : L2.St} {ty td tv : TE} {D : Ends} (h : tv σ H fun v H1 => td σ H1 fun x H2 => ty σ H2 fun y H3 => ∃ a b l k, x = .ref a ∧ y = .ref b ∧ Dc P w K H3 a l ∧ SqT K H3 b (k.map kV) ∧ valC l k = none ∧ l.length < sizeLine ∧ D.nx σ (upd H3 a (DcO P w a (l ++ [(k, b, v)])))) : sPutC P w K td ty tv D σ H := h
end
end Tc

/-! {k: v for .. in ()}: an empty dict whose keys may be tuples -/
namespace Dk
open PySem PySem.Spec PyProof.Rows L2
section
variable {X : Cx}
/-- an empty dict told anew -/
theorem d_retold {pins : List (Addr × Obj)} {σ : L2.St} {H : Hp} {s : Shared} {D : Addr} (I : Inv X pins σ H s) (hD : H D = some (.dK [])) : Inv X pins σ (upd H D (.dT [])) s := by
  obtain ⟨z, hd, vs, rel, o, es, ep, h1, h2, h3, h4, h5, h6⟩ := dk_of I.hok hD
  cases rel
  have hn : es.toList = [] := by
    generalize es.toList = l at h5
    cases h5
    rfl
  refine d_write (h' := s.heap) (t' := s.toks) I (by rw [hD]; exact True.intro) (Heap.SameBut.refl _ _) ⟨o, h1⟩ ?_
  exact ⟨Nat.zero_le _, hd, [], .nil, o, es, ep, h1, h2, h3, hn, List.nodup_nil⟩
def tDcE (K : PySem.W.Frag) (tl : TE) : TE := fun σ H Q => tl σ H fun x H1 => ∃ a, x = .ref a ∧ SqT K H1 a [] ∧ ∀ D, H1 D = none → Q (.ref D) (upd H1 D (.dT []))
theorem mono_var {n : Nat} (σ : L2.St) (H : Hp) (Q Q' : VK) (h : ∀ v H, Q v H → Q' v H) (z : tVar n σ H Q) : tVar n σ H Q' := by
  obtain ⟨v, e, q⟩ := z
  exact ⟨v, e, h _ _ q⟩
theorem pe_dcE {kx vx tg iter : Expr} {ifs : List Expr} {scope : Scope} {own : List (Str × Nat)} {pos : Pos} {tl : TE} {g : TG} {tt : TT} {tk tv : TE} (hc : X.calm = true) (hN : X.N.Nodup) (hi : PE X iter tl) (mono : ∀ (σ : L2.St) (H : Hp) (Q Q' : VK), (∀ v H, Q v H → Q' v H) → tl σ H Q → tl σ H Q') (ok : BlkOk X.N X.env.scope scope own)
    (hg : ∀ (s : Shared) (H : Hp) (C : Addr) (cl : List (Str × Addr)) (fp : List Addr), PG (X.blk s H scope (compEnvC scope cl C X.env) fp) tg g) (ht : ∀ (s : Shared) (H : Hp) (C : Addr) (cl : List (Str × Addr)) (fp : List Addr), PTs (X.blk s H scope (compEnvC scope cl C X.env) fp) ifs tt)
    (hk : ∀ (s : Shared) (H : Hp) (C : Addr) (cl : List (Str × Addr)) (fp : List Addr), PE (X.blk s H scope (compEnvC scope cl C X.env) fp) kx tk)
    (he : ∀ (s : Shared) (H : Hp) (C : Addr) (cl : List (Str × Addr)) (fp : List Addr), PE (X.blk s H scope (compEnvC scope cl C X.env) fp) vx tv) (hs : ∀ x, foldedSetIterable iter X.env x = pure x := by intro _; rfl) :
    PE X (.DictComp kx vx [⟨tg, iter, ifs, 0⟩] scope pos) (tDcE X.K tl) := by
  refine ⟨fun pins s σ H Q I h => ?_⟩
  rw [arm_eval_DictComp]
  have h2 : tDc (iTup X.K tl) g tt tk tv (own.map (·.2)) σ H (fun v H' => ∃ D, v = .ref D ∧ H' D = some (.dK []) ∧ Q v (upd H' D (.dT []))) := by
    refine mono σ H _ _ (fun v H1 z => ?_) h
    obtain ⟨a, e, ha, k⟩ := z
    refine ⟨a, e, ⟨[], ha⟩, fun D hD => ?_⟩
    refine dc_tup (xs := []) (fun i H' => H' = upd H1 D (.dK [])) rfl (fun i H' hi q => by subst q; exact SqT.up (Same.new (Same.refl H1) hD) ha) (fun i x H' hx q => by cases hx) (fun H' q => ?_)
    subst q
    exact ⟨D, rfl, upd_same, by rw [upd_upd]; exact k D hD⟩
  refine dc_core hc hN I (pi_tup hi) ok hg ht hk he hs h2 fun D C s' m H' I' q hn f => ⟨m, hn, fun h'' sb => ?_⟩
  obtain ⟨D', e, hD, q⟩ := q
  cases e
  obtain ⟨f0, f1, f2, f3, f4, f5⟩ := f
  have f0' : upd H' D (.dT []) C = none := by
    rw [upd_ne (fun z => by rw [z, hD] at f0; cases f0)]
    exact f0
  exact ⟨.ref D, _, (d_retold I' hD).turned (t' := s'.toks) (fun b o hb e => (sb.2 b hb).trans e) f0' f1 f3 f4 f5, rfl, q⟩
theorem r_dcE {K : PySem.W.Frag} {σ : L2.St} {H : Hp} {Q : VK} {tl : TE} (h : tl σ H fun x H1 => ∃ a, x = .ref a ∧ SqT K H1 a [] ∧ ∀ D, H1 D = none → Q (.ref D) (upd H1 D (.dT []))) : tDcE K tl σ H Q := h
theorem lk_map {f : Str → NameKind → NameKind} (hf : ∀ n k, k = .cell ∨ k = .free → f n k = .cell ∨ f n k = .free) {y : Str} : ∀ {l : List (Str × NameKind)}, l.lookup y = some .cell ∨ l.lookup y = some .free → (l.map fun p => (p.1, f p.1 p.2)).lookup y = some .cell ∨ (l.map fun p => (p.1, f p.1 p.2)).lookup y = some .free
  | [], h => by rcases h with h | h <;> cases h
  | (n, k) :: r, h => by
    rw [List.map_cons, List.lookup_cons]
    rw [List.lookup_cons] at h
    cases e : y == n with
    | true =>
      rw [e] at h
      have hk : k = .cell ∨ k = .free := by
        rcases h with h | h
        · exact .inl (Option.some.inj h)
        · exact .inr (Option.some.inj h)
      rcases hf n k hk with z | z
      · exact .inl (congrArg some z)
      · exact .inr (congrArg some z)
    | false =>
      rw [e] at h
      exact lk_map hf h
/-- a comprehension within a comprehension -/
theorem blkOk_in {N : List Str} {s : Shared} {H : Hp} {sc scope : Scope} {C : Addr} {cl : List (Str × Addr)} {env : Env} {fp : List Addr} {own : List (Str × Nat)} (hN : X.N = N) (h : blkC N sc scope own = true) :
    BlkOk (X.blk s H sc (compEnvC sc cl C env) fp).N (X.blk s H sc (compEnvC sc cl C env) fp).env.scope scope own := by
  have h2 := blkOk_by h
  rw [← hN] at h2
  refine ⟨h2.kind, h2.uniq, h2.ix, fun y hy e => ?_, h2.own⟩
  have key := lk_map (f := fun n k => if (k == NameKind.free && env.scope.kind == .function && env.kindOf n == some .cell) then NameKind.cell else k) (fun n k z => by
    split
    · exact .inl rfl
    · exact z) (h2.free y hy e)
  have ef : (fun p : Str × NameKind => (p.1, if (p.2 == NameKind.free && env.scope.kind == .function && env.kindOf p.1 == some .cell) then NameKind.cell else p.2)) = fun (n, k) => if (k == NameKind.free && env.scope.kind == .function && env.kindOf n == some .cell) then (n, NameKind.cell) else (n, k) := by
    funext ⟨n, k⟩
    dsimp only
    split <;> rfl
  rw [ef] at key
  exact key
end
end Dk

/-! a rule of our own: xs[a:c] = t, t a tuple -/
namespace Dk
open PySem PySem.Spec PyProof.Rows L2 PySem.SeqAt PySem.W
theorem put_slT {prog : Program} {w : World} {A : Around} {E : Value → Shared → Prop} {s : Shared} {l b sl n a c : Nat} {items new : Array Value} {vl vu : Value} {Q : Unit → Shared → Prop}
    (e : s.heap.get? l = some { cls := .type "list", data := .seq items n }) (hb : IsTup s.heap b new) (hne : l ≠ b) (hs : s.heap.IsSliceOf sl vl vu .none) (pl : IsPart vl (some (a : Int))) (pu : IsPart vu (some (c : Int)))
    (hac : a ≤ c) (hc : c ≤ items.size) (hsz : items.size + new.size ≤ sizeLine) (h : Q () { s with heap := s.heap.update l (Obj.mapSeq fun xs => xs.extract 0 a ++ new ++ xs.extract c xs.size) }) : wpAny (model prog w) A (setItem (.ref l) (.ref sl) (.ref b)) Q E s := by
  have hl : s.heap.IsList l items := PySem.IsL.isList e; obtain ⟨os, hos, hcs, hds⟩ := id hs; obtain ⟨ob, hob, hcb, n2, hdb⟩ := id hb
  have hT2 : s.TypeIs (.ref b) "tuple" := ⟨ob, hob, hcb⟩; have hTs : s.TypeIs (.ref sl) "slice" := ⟨os, hos, hcs⟩
  have hstep : ¬ ((rawPart none == rawInt 0) = true) := Bool.false_ne_true; have hmax : (max (a : Int) (c : Int)).toNat = c := by omega
  have hsame : Builtin.List.listSameRef (.ref l) (.ref b) = false := by
    unfold Builtin.List.listSameRef; exact beq_eq_false_iff_ne.mpr hne
  have hz' : ((fun xs : Array Value => xs.extract 0 a ++ new ++ xs.extract c xs.size) items).size ≤ sizeLine + 1 := by
    simp only [Array.size_append, Array.size_extract]; omega
  unfold setItem; try with_reducible refine wpAny_holding ?_
  (first | refine wpAny_bind (wpAny_pure ?_) | skip); refine wpAny_bind (wpAny_sequenceKey hl.typeIs (by decide) ?_)
  refine wpAny_bind (wpAny_callSpecial?_slot (name := Str.ofString "__setitem__") hl.typeIs slot_list_setitem (wpAny_call_entry slot_list_setitem hl.typeIs entry_list_setitem ?_ (args_list_setitem _ _ _)))
  show wpAny _ _ (Builtin.List.listSubscript? (.ref sl) >>= _) _ _ s; refine wpAny_bind ?_; unfold Builtin.List.listSubscript?
  refine wpAny_bind (wpAny_specialOf hTs slice_no_index ?_); simp only [Option.isNone_none, if_true]; refine wpAny_pure ?_
  show wpAny _ _ (typeOf (.ref sl) >>= _) _ _ s; refine wpAny_bind (wpAny_typeOf hTs ?_)
  (first | rw [if_neg (by decide)] | refine PySem.W.KFB.if_not (by decide) ?_); rw [listSliceParts_eq]
  refine wpAny_bind (wpAny_bind (wpAny_field hos hds (x := .none) rfl (wpAny_bind (wpAny_listPart .none ?_)))); rw [if_neg hstep]
  refine wpAny_bind (wpAny_field hos hds (x := vl) rfl (wpAny_bind (wpAny_listPart pl ?_))); refine wpAny_bind (wpAny_field hos hds (x := vu) rfl (wpAny_bind (wpAny_listPart pu (wpAny_pure ?_))))
  (first | simp only [hsame, Bool.false_eq_true, if_false] | refine PySem.W.KFB.if_not hsame ?_ | (dsimp only; rw [if_neg (by rw [hsame]; exact Bool.false_ne_true)]))
  refine wpAny_bind (m := Builtin.List.listAllItems (.ref b) "must assign iterable to extended slice") ?_; unfold Builtin.List.listAllItems; refine wpAny_bind (wpAny_typeOf hT2 ?_)
  (first | refine PySem.W.KFB.if_so (by decide) ?_ | rw [if_pos (by decide)] | simp only [beq_self_eq_true, Bool.or_true, if_true]); unfold Builtin.List.listItems
  refine wpAny_bind (wpAny_seqItems hob hdb (wpAny_pure ?_)); refine wpAny_bind (wpAny_bind (wpAny_seqItems e rfl (wpAny_pure ?_)))
  refine wpAny_bind (wpAny_of_eq ((sliceIndices_raw (some (a : Int)) (some (c : Int)) none items.size (by simp)).trans (congrArg (pure : Int × Int × Int → Sem (Int × Int × Int)) (bounds_run hac hc))) ?_)
  show wpAny _ _ (if ((1 : Int) == 1) = true then _ else _) _ _ s; rw [if_pos (by decide)]; refine wpAny_bind (wpAny_rule ?_)
  (first | simp only [notLongL hsz, Bool.false_eq_true, if_false] | refine PySem.W.KFB.if_not (notLongL hsz) ?_); (first | refine wpAny_bind (wpAny_pure ?_) | skip)
  show wpAny _ _ (updateSeq l (fun xs => xs.extract 0 ((a : Int)).toNat ++ new ++ xs.extract (max (a : Int) (c : Int)).toNat xs.size) >>= _) _ _ s; rw [hmax, Int.toNat_natCast]
  refine wpAny_bind (wpAny_updateSeq (hz := Nat.le_trans (Nat.le_add_right _ _) hsz) (_hz' := hz') e rfl ?_); refine wpAny_bind (wpAny_letGo ?_)
  first | exact wpAny_bind (wpAny_pure (wpAny_pure ⟨.none, rfl, wpAny_pure h⟩)) | exact wpAny_pure ⟨.none, rfl, wpAny_pure h⟩
theorem set_slT {X : Cx} {pins : List (Addr × Obj)} {s : Shared} {σ : L2.St} {H : Hp} {l b sl : Addr} {xs ys : List V} {a c : Int} {vl vu : Value} {Q : Unit → Shared → Prop} (I : Inv X pins σ H s)
    (hH : H l = some (.lst xs)) (hB : SqT X.K H b ys) (hs : s.heap.IsSliceOf sl vl vu .none) (ra : RelV (.int a) vl) (rc : RelV (.int c) vu) (h0 : 0 ≤ a) (hac : a ≤ c) (hc : c ≤ xs.length)
    (hz : xs.length + ys.length ≤ sizeLine) (h : ∀ s', Inv X pins σ (upd H l (.lst (xs.take a.toNat ++ ys ++ xs.drop c.toNat))) s' → Q () s') : wpAny (model X.prog X.w) X.A (setItem (.ref l) (.ref sl) (.ref b)) Q X.xe s := by
  obtain ⟨ta, rfl⟩ := ra; obtain ⟨tc, rfl⟩ := rc
  obtain ⟨z, its, n, r, hl, e⟩ := I.lstM hH; obtain ⟨its2, r2, hb, z2⟩ := I.tuple hB
  have l1 := r.length; have l2 := r2.length
  obtain ⟨a', rfl⟩ := Int.eq_ofNat_of_zero_le h0; obtain ⟨c', rfl⟩ := Int.eq_ofNat_of_zero_le (Int.le_trans h0 hac)
  have hne : l ≠ b := fun q => by
    obtain ⟨o, h1, h2, _⟩ := hb
    rw [← q, e] at h1
    cases h1
    exact absurd (show (Value.type "list") = Value.type "tuple" from h2) (by decide)
  simp only [Int.toNat_natCast] at h; skip
  refine put_slT (a := a') (c := c') e hb hne hs (.int _ _) (.int _ _) (by omega) (by rw [List.size_toArray]; omega) (by rw [List.size_toArray, List.size_toArray]; omega) (h _ ?_)
  refine I.lset (t' := s.toks) (its' := its.take a' ++ its2 ++ its.drop c') hH e ?_ (.append (.append (r.take _) r2) (r.drop _)) ?_
  · exact splice_eq its its2 _ _
  · simp only [List.length_append, List.length_take, List.length_drop]; omega
def gSliT (K : PySem.W.Frag) (to : TE) (tl th : TO) : TG := fun v σ H Q => to σ H fun o H1 => tl σ H1 fun lo H2 => th σ H2 fun hi H3 => ∃ (l b : Addr) (xs ys : List V) (a c : Int), o = .ref l ∧ v = .ref b ∧ lo = some a ∧ hi = some c ∧
  H3 l = some (.lst xs) ∧ SqT K H3 b ys ∧ 0 ≤ a ∧ a ≤ c ∧ c ≤ xs.length ∧ xs.length + ys.length ≤ sizeLine ∧ Q σ (upd H3 l (.lst (xs.take a.toNat ++ ys ++ xs.drop c.toNat)))
theorem pg_sliT {X : Cx} {o : Expr} {lo hi : Option Expr} {to : TE} {tl th : TO} {pos p2 : Pos} (ho : PE X o to) (hl : PO X lo tl) (hu : PO X hi th)
    (ha : ∀ v, assign (.Subscript o (.Slice lo hi none p2) pos) X.env v = (do
      let ov ← holding [v] (eval o X.env)
      let iv ← holding [v, ov] (eval (.Slice lo hi none p2) X.env)
      standAt pos
      holding [v, ov, iv] (setItem ov iv v)
      release [iv, v, ov] []) := by intro _; rfl) : PG X (.Subscript o (.Slice lo hi none p2) pos) (gSliT X.K to tl th) := by
  refine ⟨fun pins s σ H v u Q I r h => ?_⟩
  rw [ha]
  refine wpAny_bind (wpAny_holding (thn (ho.run pins s σ H _ I h) fun ov s1 ⟨x, H1, I1, r1, q1⟩ => ?_))
  refine wpAny_bind (wpAny_holding (wpAny_Slice (thn (hl.run pins s1 σ H1 _ I1 q1) fun vl s2 ⟨l, H2, I2, pl, q2⟩ => thn (hu.run pins s2 σ H2 _ I2 q2) fun vu s3 ⟨w, H3, I3, pu, q3⟩ => ?_)))
  rw [evalPart_none]
  refine wpAny_pure ?_
  have I4 : Inv X pins σ H3 { s3 with heap := s3.heap.push { cls := .type "slice", data := .fields #[vl, vu, .none] } } := I3.kept (t' := s3.toks) fun b ob q => Heap.get?_push_of_some _ q
  obtain ⟨la, lb, xs, ys, a, c, rfl, rfl, rfl, rfl, h1, h2, h4, h5, h6, h7, q⟩ := q3
  cases r1
  cases r
  have ra : RelV (.int a) vl := by
    cases pl with
    | int _ t => exact ⟨t, rfl⟩
  have rc : RelV (.int c) vu := by
    cases pu with
    | int _ t => exact ⟨t, rfl⟩
  refine wpAny_bind (wpAny_standAt (wpAny_bind (wpAny_holding ?_)))
  refine set_slT (s := { s3 with heap := s3.heap.push { cls := .type "slice", data := .fields #[vl, vu, .none] } }) (sl := s3.heap.objs.size) I4 h1 h2 (Heap.IsSliceOf.new ..) ra rc h4 h5 h6 h7 fun s' I' => ?_
  exact wpAny_release ⟨σ, _, I', q⟩
theorem r_gsliT {K : PySem.W.Frag} {v : V} {σ : L2.St} {H : Hp} {Q : L2.St → Hp → Prop} {to : TE} {tl th : TO} (h : to σ H fun o H1 => tl σ H1 fun lo H2 => th σ H2 fun hi H3 => ∃ (l b : Addr) (xs ys : List V) (a c : Int), o = .ref l ∧ v = .ref b ∧ lo = some a ∧ hi = some c ∧
  H3 l = some (.lst xs) ∧ SqT K H3 b ys ∧ 0 ≤ a ∧ a ≤ c ∧ c ≤ xs.length ∧ xs.length + ys.length ≤ sizeLine ∧ Q σ (upd H3 l (.lst (xs.take a.toNat ++ ys ++ xs.drop c.toNat)))) : gSliT K to tl th v σ H Q := h
end Dk

namespace K63
open PySem PySem.Spec PyProof.Rows L2 Dk
/-- one step of a reading -/
local macro_rules | `(tactic| walk_at "rd1") => `(tactic| first
  | ((with_reducible refine r_var (v := ?rv) ?rh ?_); (case rh => rfl))
  | with_reducible refine r_c ?_
  | with_reducible refine r_seq ?_
  | with_reducible refine r_asg ?_
  | with_reducible refine r_par ?_
  | with_reducible refine r_gname ?_
  | with_reducible refine r_op ?_
  | with_reducible refine r_forLo ?_
  | with_reducible refine r_forTo ?_
  | with_reducible refine r_forSo ?_
  | with_reducible refine r_forRo ?_
  | with_reducible refine r_forRvo ?_
  | with_reducible refine r_forZo ?_
  | with_reducible refine r_revS ?_
  | with_reducible refine r_lcRo ?_
  | with_reducible refine r_lcLo ?_
  | with_reducible refine r_yes ?_
  | with_reducible refine r_callK0 ?_
  | with_reducible refine r_break ?_
  | with_reducible refine r_forR2o ?_
  | with_reducible refine r_forEo ?_
  | with_reducible refine r_forESo ?_
  | with_reducible refine r_xfo ?_
  | with_reducible refine r_noP ?_
  | with_reducible refine r_part ?_
  | with_reducible refine r_pI ?_
  | with_reducible refine r_gcons ?_
  | with_reducible refine r_gnil ?_
  | with_reducible refine r_mkO ?_
  | with_reducible refine r_un ?_
  | with_reducible refine r_addI ?_
  | with_reducible refine r_I0 ?_
  | with_reducible refine r_U ?_
  | with_reducible refine r_cons ?_
  | with_reducible refine r_nil ?_
  | with_reducible refine r_CB ?_
  | with_reducible refine r_call ?_
  | with_reducible refine r_callS ?_
  | with_reducible refine r_int ?_
  | with_reducible refine r_max ?_
  | with_reducible refine r_min ?_
  | with_reducible refine r_test ?_
  | with_reducible refine r_B ?_
  | with_reducible refine r_blv ?_
  | with_reducible refine r_and ?_
  | with_reducible refine r_or ?_
  | with_reducible refine r_not ?_
  | with_reducible refine r_andV ?_
  | with_reducible refine r_orV ?_
  | with_reducible refine r_notV ?_
  | with_reducible refine r_ifE ?_
  | with_reducible refine r_ifS ?_
  | with_reducible refine r_ret ?_
  | with_reducible refine r_retN ?_
  | with_reducible refine r_drop ?_
  | with_reducible refine r_next ?_
  | with_reducible refine r_sl ?_
  | with_reducible refine r_gsub ?_
  | with_reducible refine r_bm ?_
  | with_reducible refine r_tup ?_
  | with_reducible refine r_lst ?_
  | with_reducible refine r_isN ?_
  | with_reducible refine r_notN ?_
  | with_reducible refine r_chain ?_
  | with_reducible refine r_lcEio ?_
  | with_reducible refine r_forEi ?_
  | with_reducible refine r_lcTo ?_
  | with_reducible refine r_m1 ?_
  | with_reducible refine r_dget ?_
  | with_reducible refine r_din ?_
  | with_reducible refine r_dnotin ?_
  | with_reducible refine r_starC ?_
  | with_reducible refine r_callKS ?_
  | with_reducible refine r_itt ?_
  | with_reducible refine r_iff ?_
  | with_reducible refine r_ittN ?_
  | with_reducible refine r_iffN ?_
  | ((with_reducible refine r_ittD ?rh ?_); (case rh => rfl))
  | ((with_reducible refine r_iffD ?rh ?_); (case rh => rfl))
  | ((with_reducible refine r_modP ?rh ?_); (case rh => decide))
  | ((with_reducible refine r_eq ?rh ?_); (case rh => rfl))
  | ((with_reducible refine r_eqP ?rh ?_); (case rh => rfl))
  | ((with_reducible refine r_ne ?rh ?_); (case rh => rfl)))
local macro_rules | `(tactic| walk_at "rd") => `(tactic| repeat walk_at "rd1")
local macro_rules | `(tactic| walk_at "isi") => `(tactic| first | refine r_isi (b := true) (by assumption) (by decide +kernel) ?_ | refine r_isi (b := false) (by assumption) (by decide +kernel) ?_)
local macro_rules | `(tactic| walk_at "rs1") => `(tactic| first
  | with_reducible refine r_seq ?_
  | with_reducible refine r_asg ?_
  | with_reducible refine r_gname ?_
  | with_reducible refine r_ret ?_)
local macro_rules | `(tactic| walk_at "rs") => `(tactic| repeat walk_at "rs1")

def topS (i : Nat) : Stmt := PySem.Challenge.pw_deedstand_k63_paints_least.main.body.getD i (.Pass ⟨0, 0, 0, 0⟩)
abbrev s_row_paints : Stmt := topS 2
abbrev N_row_paints : List Str := ["row", "old", "new", "runs", "begin", "column", "tile"]
theorem sc_row_paints : FnScope ["row", "old", "new", "runs", "begin", "column", "tile"] ["row", "old", "new"] (defScope s_row_paints) := ⟨rfl, rfl, rfl, by decide +kernel, rfl, by decide +kernel, by decide +kernel⟩
abbrev s_paints : Stmt := topS 3
abbrev N_paints : List Str := ["old", "new", "runs", "row", "tiles"]
theorem sc_paints : FnScope ["old", "new", "runs", "row", "tiles"] ["old", "new"] (defScope s_paints) := ⟨rfl, rfl, rfl, by decide +kernel, rfl, by decide +kernel, by decide +kernel⟩
abbrev s_painted : Stmt := topS 4
abbrev N_painted : List Str := ["old", "runs", "tiles", "rows", "row", "column"]
theorem sc_painted : FnScope ["old", "runs", "tiles", "rows", "row", "column"] ["old", "runs"] (defScope s_painted) := ⟨rfl, rfl, rfl, by decide +kernel, rfl, by decide +kernel, by decide +kernel⟩
abbrev s_piece_end : Stmt := topS 12
abbrev N_piece_end : List Str := ["row", "start", "width", "wordwise", "space"]
theorem sc_piece_end : FnScope ["row", "start", "width", "wordwise", "space"] ["row", "start", "width", "wordwise"] (defScope s_piece_end) := ⟨rfl, rfl, rfl, by decide +kernel, rfl, by decide +kernel, by decide +kernel⟩
abbrev s_laid : Stmt := topS 13
abbrev N_laid : List Str := ["row", "width", "wordwise", "pieces", "start", "end"]
theorem sc_laid : FnScope ["row", "width", "wordwise", "pieces", "start", "end"] ["row", "width", "wordwise"] (defScope s_laid) := ⟨rfl, rfl, rfl, by decide +kernel, rfl, by decide +kernel, by decide +kernel⟩
abbrev s_rows_of : Stmt := topS 17
abbrev N_rows_of : List Str := ["text"]
theorem sc_rows_of : FnScope ["text"] ["text"] (defScope s_rows_of) := ⟨rfl, rfl, rfl, by decide +kernel, rfl, by decide +kernel, by decide +kernel⟩
abbrev s_spot_of : Stmt := topS 18
abbrev N_spot_of : List Str := ["text", "place", "begin"]
theorem sc_spot_of : FnScope ["text", "place", "begin"] ["text", "place"] (defScope s_spot_of) := ⟨rfl, rfl, rfl, by decide +kernel, rfl, by decide +kernel, by decide +kernel⟩
abbrev s_row_bounds : Stmt := topS 19
abbrev N_row_bounds : List Str := ["text", "line", "rows", "begin", "row"]
theorem sc_row_bounds : FnScope ["text", "line", "rows", "begin", "row"] ["text", "line"] (defScope s_row_bounds) := ⟨rfl, rfl, rfl, by decide +kernel, rfl, by decide +kernel, by decide +kernel⟩
abbrev s_row_at : Stmt := topS 23
abbrev N_row_at : List Str := ["screen_rows", "line", "column", "low", "high", "middle"]
theorem sc_row_at : FnScope ["screen_rows", "line", "column", "low", "high", "middle"] ["screen_rows", "line", "column"] (defScope s_row_at) := ⟨rfl, rfl, rfl, by decide +kernel, rfl, by decide +kernel, by decide +kernel⟩
abbrev s_place_in : Stmt := topS 24
abbrev N_place_in : List Str := ["screen_rows", "line", "column", "width", "index", "shown", "start", "end"]
theorem sc_place_in : FnScope ["screen_rows", "line", "column", "width", "index", "shown", "start", "end"] ["screen_rows", "line", "column", "width"] (defScope s_place_in) := ⟨rfl, rfl, rfl, by decide +kernel, rfl, by decide +kernel, by decide +kernel⟩
abbrev s_top_row : Stmt := topS 26
abbrev N_top_row : List Str := ["first", "caret", "height"]
theorem sc_top_row : FnScope ["first", "caret", "height"] ["first", "caret", "height"] (defScope s_top_row) := ⟨rfl, rfl, rfl, by decide +kernel, rfl, by decide +kernel, by decide +kernel⟩
abbrev s_low_high : Stmt := topS 28
abbrev N_low_high : List Str := ["pick", "tail", "head"]
theorem sc_low_high : FnScope ["pick", "tail", "head"] ["pick"] (defScope s_low_high) := ⟨rfl, rfl, rfl, by decide +kernel, rfl, by decide +kernel, by decide +kernel⟩
abbrev s_joined_stretches : Stmt := topS 29
abbrev N_joined_stretches : List Str := ["stretches", "found", "low", "high", "begin", "end"]
theorem sc_joined_stretches : FnScope ["stretches", "found", "low", "high", "begin", "end"] ["stretches"] (defScope s_joined_stretches) := ⟨rfl, rfl, rfl, by decide +kernel, rfl, by decide +kernel, by decide +kernel⟩
abbrev s_lines_hidden : Stmt := topS 35
abbrev N_lines_hidden : List Str := ["text", "folds", "lines", "begin", "end"]
theorem sc_lines_hidden : FnScope ["text", "folds", "lines", "begin", "end"] ["text", "folds"] (defScope s_lines_hidden) := ⟨rfl, rfl, rfl, by decide +kernel, rfl, by decide +kernel, by decide +kernel⟩
abbrev s_selected_flags : Stmt := topS 37
abbrev N_selected_flags : List Str := ["begin", "many", "stretches", "flags", "low", "high", "at"]
theorem sc_selected_flags : FnScope ["begin", "many", "stretches", "flags", "low", "high", "at"] ["begin", "many", "stretches"] (defScope s_selected_flags) := ⟨rfl, rfl, rfl, by decide +kernel, rfl, by decide +kernel, by decide +kernel⟩
abbrev s_tiled : Stmt := topS 39
abbrev N_tiled : List Str := ["text", "height", "tints", "layout", "picks", "folds", "top", "tiler", "first", "index"]
theorem sc_tiled : FnScope ["text", "height", "tints", "layout", "picks", "folds", "top", "tiler", "first", "index"] ["text", "height", "tints", "layout", "picks", "folds", "top"] (defScope s_tiled) := ⟨rfl, rfl, rfl, by decide +kernel, rfl, by decide +kernel, by decide +kernel⟩
abbrev s_screen_of : Stmt := topS 61
abbrev N_screen_of : List Str := ["text", "width", "height", "wordwise", "book", "picks", "folds", "top", "rows", "layout", "tints"]
theorem sc_screen_of : FnScope ["text", "width", "height", "wordwise", "book", "picks", "folds", "top", "rows", "layout", "tints"] ["text", "width", "height", "wordwise", "book", "picks", "folds", "top"] (defScope s_screen_of) := ⟨rfl, rfl, rfl, by decide +kernel, rfl, by decide +kernel, by decide +kernel⟩
abbrev s_law_pool : Stmt := topS 63
abbrev N_law_pool : List Str := ["_law_script", "_law_drawn", "_law_state", "_law_cell", "_law_size", "_law_turn"]
theorem sc_law_pool : FnScope ["_law_script", "_law_drawn", "_law_state", "_law_cell", "_law_size", "_law_turn"] ["_law_script"] (defScope s_law_pool) := ⟨rfl, rfl, rfl, by decide +kernel, rfl, by decide +kernel, by decide +kernel⟩
abbrev s_law_next : Stmt := topS 64
abbrev N_law_next : List Str := ["_law_pool_here", "_law_many"]
theorem sc_law_next : FnScope ["_law_pool_here", "_law_many"] ["_law_pool_here", "_law_many"] (defScope s_law_next) := ⟨rfl, rfl, rfl, by decide +kernel, rfl, by decide +kernel, by decide +kernel⟩
abbrev s_law_signs : Stmt := topS 65
abbrev N_law_signs : List Str := ["_law_signs_here"]
theorem sc_law_signs : FnScope ["_law_signs_here"] [] (defScope s_law_signs) := ⟨rfl, rfl, rfl, by decide +kernel, rfl, by decide +kernel, by decide +kernel⟩
abbrev s_law_same : Stmt := topS 66
abbrev N_law_same : List Str := ["_law_one", "_law_due_here", "_law_k"]
theorem sc_law_same : FnScope ["_law_one", "_law_due_here", "_law_k"] ["_law_one", "_law_due_here"] (defScope s_law_same) := ⟨rfl, rfl, rfl, by decide +kernel, rfl, by decide +kernel, by decide +kernel⟩
abbrev s_law_tile : Stmt := topS 67
abbrev N_law_tile : List Str := ["_law_pool_here", "_law_sort", "_law_signs_here"]
theorem sc_law_tile : FnScope ["_law_pool_here", "_law_sort", "_law_signs_here"] ["_law_pool_here", "_law_sort"] (defScope s_law_tile) := ⟨rfl, rfl, rfl, by decide +kernel, rfl, by decide +kernel, by decide +kernel⟩
abbrev s_law_near : Stmt := topS 68
abbrev N_law_near : List Str := ["_law_pool_here", "_law_tile_here", "_law_signs_here", "_law_kind"]
theorem sc_law_near : FnScope ["_law_pool_here", "_law_tile_here", "_law_signs_here", "_law_kind"] ["_law_pool_here", "_law_tile_here"] (defScope s_law_near) := ⟨rfl, rfl, rfl, by decide +kernel, rfl, by decide +kernel, by decide +kernel⟩
abbrev s_law_screen : Stmt := topS 69
abbrev N_law_screen : List Str := ["_law_pool_here", "_law_wide", "_law_high", "_law_blank", "_law_sort", "_law_j", "_law_k"]
theorem sc_law_screen : FnScope ["_law_pool_here", "_law_wide", "_law_high", "_law_blank", "_law_sort", "_law_j", "_law_k"] ["_law_pool_here", "_law_wide", "_law_high"] (defScope s_law_screen) := ⟨rfl, rfl, rfl, by decide +kernel, rfl, by decide +kernel, by decide +kernel⟩
abbrev s_law_turned : Stmt := topS 70
abbrev N_law_turned : List Str := ["_law_pool_here", "_law_screen_here", "_law_often", "_law_made", "_law_band", "_law_tiles", "_law_k"]
theorem sc_law_turned : FnScope ["_law_pool_here", "_law_screen_here", "_law_often", "_law_made", "_law_band", "_law_tiles", "_law_k"] ["_law_pool_here", "_law_screen_here"] (defScope s_law_turned) := ⟨rfl, rfl, rfl, by decide +kernel, rfl, by decide +kernel, by decide +kernel⟩
abbrev s_law_due : Stmt := topS 71
abbrev N_law_due : List Str := ["_law_one", "_law_other", "_law_due_here", "_law_j", "_law_begin", "_law_k"]
theorem sc_law_due : FnScope ["_law_one", "_law_other", "_law_due_here", "_law_j", "_law_begin", "_law_k"] ["_law_one", "_law_other"] (defScope s_law_due) := ⟨rfl, rfl, rfl, by decide +kernel, rfl, by decide +kernel, by decide +kernel⟩
abbrev s_law_spread : Stmt := topS 72
abbrev N_law_spread : List Str := ["_law_screen_here", "_law_strokes_here", "_law_made", "_law_stroke", "_law_k", "_law_band"]
theorem sc_law_spread : FnScope ["_law_screen_here", "_law_strokes_here", "_law_made", "_law_stroke", "_law_k", "_law_band"] ["_law_screen_here", "_law_strokes_here"] (defScope s_law_spread) := ⟨rfl, rfl, rfl, by decide +kernel, rfl, by decide +kernel, by decide +kernel⟩
abbrev s_law_strokes : Stmt := topS 73
abbrev N_law_strokes : List Str := ["_law_pool_here", "_law_screen_here", "_law_other", "_law_strokes_here", "_law_turn", "_law_j", "_law_begin", "_law_end"]
theorem sc_law_strokes : FnScope ["_law_pool_here", "_law_screen_here", "_law_other", "_law_strokes_here", "_law_turn", "_law_j", "_law_begin", "_law_end"] ["_law_pool_here", "_law_screen_here", "_law_other"] (defScope s_law_strokes) := ⟨rfl, rfl, rfl, by decide +kernel, rfl, by decide +kernel, by decide +kernel⟩
abbrev s_law_pair : Stmt := topS 74
abbrev N_law_pair : List Str := ["_law_pool_here", "_law_one", "_law_other", "_law_due_here", "_law_k", "_law_rest", "_law_strokes_here"]
theorem sc_law_pair : FnScope ["_law_pool_here", "_law_one", "_law_other", "_law_due_here", "_law_k", "_law_rest", "_law_strokes_here"] ["_law_pool_here", "_law_one", "_law_other"] (defScope s_law_pair) := ⟨rfl, rfl, rfl, by decide +kernel, rfl, by decide +kernel, by decide +kernel⟩
abbrev s_law_text : Stmt := topS 75
abbrev N_law_text : List Str := ["_law_pool_here", "_law_signs_here", "_law_sort", "_law_k"]
theorem sc_law_text : FnScope ["_law_pool_here", "_law_signs_here", "_law_sort", "_law_k"] ["_law_pool_here"] (defScope s_law_text) := ⟨rfl, rfl, rfl, by decide +kernel, rfl, by decide +kernel, by decide +kernel⟩
abbrev s_law : Stmt := topS 76
abbrev N_law : List Str := ["_law_script", "_law_pool_here", "_law_wide", "_law_high", "_law_great", "_law_one", "_law_other", "_law_tales", "_law_at"]
theorem sc_law : FnScope ["_law_script", "_law_pool_here", "_law_wide", "_law_high", "_law_great", "_law_one", "_law_other", "_law_tales", "_law_at"] ["_law_script"] (defScope s_law) := ⟨rfl, rfl, rfl, by decide +kernel, rfl, by decide +kernel, by decide +kernel⟩
abbrev s_Layout_init : Stmt := inClass (topS 15) 0
abbrev N_Layout_init : List Str := ["self", "width", "wordwise"]
theorem sc_Layout_init : FnScope ["self", "width", "wordwise"] ["self", "width", "wordwise"] (defScope s_Layout_init) := ⟨rfl, rfl, rfl, by decide +kernel, rfl, by decide +kernel, by decide +kernel⟩
abbrev s_Layout_refresh : Stmt := inClass (topS 15) 1
abbrev N_Layout_refresh : List Str := ["self", "rows", "fresh", "line", "row"]
theorem sc_Layout_refresh : FnScope ["self", "rows", "fresh", "line", "row"] ["self", "rows"] (defScope s_Layout_refresh) := ⟨rfl, rfl, rfl, by decide +kernel, rfl, by decide +kernel, by decide +kernel⟩
abbrev s_Layout_screen_rows : Stmt := inClass (topS 15) 3
abbrev N_Layout_screen_rows : List Str := ["self", "hidden", "line", "away", "found", "pieces", "start", "end"]
theorem sc_Layout_screen_rows : FnScope ["self", "hidden", "line", "away", "found", "pieces", "start", "end"] ["self", "hidden"] (defScope s_Layout_screen_rows) := ⟨rfl, rfl, rfl, by decide +kernel, rfl, by decide +kernel, by decide +kernel⟩
abbrev s_Tiler_init : Stmt := inClass (topS 38) 0
abbrev N_Tiler_init : List Str := ["self", "text", "tints", "layout", "picks", "hidden", "_", "head", "pick"]
theorem sc_Tiler_init : FnScope ["self", "text", "tints", "layout", "picks", "hidden", "_", "head", "pick"] ["self", "text", "tints", "layout", "picks", "hidden"] (defScope s_Tiler_init) := ⟨rfl, rfl, rfl, by decide +kernel, rfl, by decide +kernel, by decide +kernel⟩
abbrev s_Tiler_index_at : Stmt := inClass (topS 38) 1
abbrev N_Tiler_index_at : List Str := ["self", "place", "line", "column"]
theorem sc_Tiler_index_at : FnScope ["self", "place", "line", "column"] ["self", "place"] (defScope s_Tiler_index_at) := ⟨rfl, rfl, rfl, by decide +kernel, rfl, by decide +kernel, by decide +kernel⟩
abbrev s_Tiler_tile_at : Stmt := inClass (topS 38) 2
abbrev N_Tiler_tile_at : List Str := ["self", "place", "line", "column"]
theorem sc_Tiler_tile_at : FnScope ["self", "place", "line", "column"] ["self", "place"] (defScope s_Tiler_tile_at) := ⟨rfl, rfl, rfl, by decide +kernel, rfl, by decide +kernel, by decide +kernel⟩
abbrev s_Tiler_is_above_fold : Stmt := inClass (topS 38) 3
abbrev N_Tiler_is_above_fold : List Str := ["self", "index", "line", "_", "end"]
theorem sc_Tiler_is_above_fold : FnScope ["self", "index", "line", "_", "end"] ["self", "index"] (defScope s_Tiler_is_above_fold) := ⟨rfl, rfl, rfl, by decide +kernel, rfl, by decide +kernel, by decide +kernel⟩
abbrev s_Tiler_colours_of : Stmt := inClass (topS 38) 4
abbrev N_Tiler_colours_of : List Str := ["self", "line", "start", "end"]
theorem sc_Tiler_colours_of : FnScope ["self", "line", "start", "end"] ["self", "line", "start", "end"] (defScope s_Tiler_colours_of) := ⟨rfl, rfl, rfl, by decide +kernel, rfl, by decide +kernel, by decide +kernel⟩
abbrev s_Tiler_tiles : Stmt := inClass (topS 38) 5
abbrev N_Tiler_tiles : List Str := ["self", "index", "line", "start", "end", "rest", "signs", "colours", "begin", "flags", "fold", "heads", "tile", "at"]
theorem sc_Tiler_tiles : FnScope ["self", "index", "line", "start", "end", "rest", "signs", "colours", "begin", "flags", "fold", "heads", "tile", "at"] ["self", "index"] (defScope s_Tiler_tiles) := ⟨rfl, rfl, rfl, by decide +kernel, rfl, by decide +kernel, by decide +kernel⟩
abbrev s_init_BadPlace : Stmt := inClass (topS 7) 0
theorem sc_init_BadPlace : FnScope ["self", "at"] ["self", "at"] (defScope s_init_BadPlace) := ⟨rfl, rfl, rfl, by decide +kernel, rfl, by decide +kernel, by decide +kernel⟩
def gk_Tiler_init_0 {α : Type} : List α → List α → List α
  | [x0, x1, x2, x3, x4, x5], [] => [x0, x1, x2, x3, x4, x5]
  | _, _ => []
theorem gk_Tiler_init_0_rel {vs zs : List V} {us ws : List Value} (r : Vals vs us) (q : Vals zs ws) : Vals (gk_Tiler_init_0 vs zs) (gk_Tiler_init_0 us ws) := by
  rcases r with _ | ⟨a0, _ | ⟨a1, _ | ⟨a2, _ | ⟨a3, _ | ⟨a4, _ | ⟨a5, _ | ⟨_, _⟩⟩⟩⟩⟩⟩⟩ <;> rcases q with _ | ⟨_, _⟩ <;> first | exact .nil | exact .cons a0 (.cons a1 (.cons a2 (.cons a3 (.cons a4 (.cons a5 .nil)))))
def gk_Layout_init_0 {α : Type} : List α → List α → List α
  | [x0, x1], [y0] => [x0, x1, y0]
  | _, _ => []
theorem gk_Layout_init_0_rel {vs zs : List V} {us ws : List Value} (r : Vals vs us) (q : Vals zs ws) : Vals (gk_Layout_init_0 vs zs) (gk_Layout_init_0 us ws) := by
  rcases r with _ | ⟨a0, _ | ⟨a1, _ | ⟨_, _⟩⟩⟩ <;> rcases q with _ | ⟨b0, _ | ⟨_, _⟩⟩ <;> first | exact .nil | exact .cons a0 (.cons a1 (.cons b0 .nil))
def gk_painted_0 {α : Type} : List α → List α → List α
  | [], [y0, y1] => [y1, y0]
  | _, _ => []
theorem gk_painted_0_rel {vs zs : List V} {us ws : List Value} (r : Vals vs us) (q : Vals zs ws) : Vals (gk_painted_0 vs zs) (gk_painted_0 us ws) := by
  rcases r with _ | ⟨_, _⟩ <;> rcases q with _ | ⟨b0, _ | ⟨b1, _ | ⟨_, _⟩⟩⟩ <;> first | exact .nil | exact .cons b1 (.cons b0 .nil)
def gk_paints_0 {α : Type} : List α → List α → List α
  | [], [y0, y1] => [y1, y0]
  | _, _ => []
theorem gk_paints_0_rel {vs zs : List V} {us ws : List Value} (r : Vals vs us) (q : Vals zs ws) : Vals (gk_paints_0 vs zs) (gk_paints_0 us ws) := by
  rcases r with _ | ⟨_, _⟩ <;> rcases q with _ | ⟨b0, _ | ⟨b1, _ | ⟨_, _⟩⟩⟩ <;> first | exact .nil | exact .cons b1 (.cons b0 .nil)
def gk_screen_of_0 {α : Type} (z0 : α) (z1 : α) (z2 : α) (z3 : α) (z4 : α) : List α → List α → List α
  | [x0, x1, x2], [] => [x0, x1, x2, z0, z1, z2, z3, z4]
  | _, _ => []
theorem gk_screen_of_0_rel {w0 : V} {u0 : Value} (r0 : RelV w0 u0) {w1 : V} {u1 : Value} (r1 : RelV w1 u1) {w2 : V} {u2 : Value} (r2 : RelV w2 u2) {w3 : V} {u3 : Value} (r3 : RelV w3 u3) {w4 : V} {u4 : Value} (r4 : RelV w4 u4) {vs zs : List V} {us ws : List Value} (r : Vals vs us) (q : Vals zs ws) : Vals (gk_screen_of_0 w0 w1 w2 w3 w4 vs zs) (gk_screen_of_0 u0 u1 u2 u3 u4 us ws) := by
  rcases r with _ | ⟨a0, _ | ⟨a1, _ | ⟨a2, _ | ⟨_, _⟩⟩⟩⟩ <;> rcases q with _ | ⟨_, _⟩ <;> first | exact .nil | exact .cons a0 (.cons a1 (.cons a2 (.cons r0 (.cons r1 (.cons r2 (.cons r3 (.cons r4 .nil)))))))
def gk_screen_of_1 {α : Type} (z0 : α) (z1 : α) (z2 : α) (z3 : α) : List α → List α → List α
  | [x0, x1, x2], [y0] => [x0, x1, x2, y0, z0, z1, z2, z3]
  | _, _ => []
theorem gk_screen_of_1_rel {w0 : V} {u0 : Value} (r0 : RelV w0 u0) {w1 : V} {u1 : Value} (r1 : RelV w1 u1) {w2 : V} {u2 : Value} (r2 : RelV w2 u2) {w3 : V} {u3 : Value} (r3 : RelV w3 u3) {vs zs : List V} {us ws : List Value} (r : Vals vs us) (q : Vals zs ws) : Vals (gk_screen_of_1 w0 w1 w2 w3 vs zs) (gk_screen_of_1 u0 u1 u2 u3 us ws) := by
  rcases r with _ | ⟨a0, _ | ⟨a1, _ | ⟨a2, _ | ⟨_, _⟩⟩⟩⟩ <;> rcases q with _ | ⟨b0, _ | ⟨_, _⟩⟩ <;> first | exact .nil | exact .cons a0 (.cons a1 (.cons a2 (.cons b0 (.cons r0 (.cons r1 (.cons r2 (.cons r3 .nil)))))))
def gk_laid_0 {α : Type} : List α → List α → List α
  | [x0, x1], [y0] => [x0, x1, y0]
  | _, _ => []
theorem gk_laid_0_rel {vs zs : List V} {us ws : List Value} (r : Vals vs us) (q : Vals zs ws) : Vals (gk_laid_0 vs zs) (gk_laid_0 us ws) := by
  rcases r with _ | ⟨a0, _ | ⟨a1, _ | ⟨_, _⟩⟩⟩ <;> rcases q with _ | ⟨b0, _ | ⟨_, _⟩⟩ <;> first | exact .nil | exact .cons a0 (.cons a1 (.cons b0 .nil))
structure Txt (K : PySem.W.Frag) (mg : Str → Option Value) where
  a_row_paints : Addr
  d_row_paints : FuncData
  F_row_paints : Fun K "row_paints" "row_paints" s_row_paints a_row_paints d_row_paints
  g_row_paints : mg "row_paints" = some (.ref a_row_paints)
  b_row_paints : Binds K d_row_paints ["row", "old", "new"] []
  a_paints : Addr
  d_paints : FuncData
  F_paints : Fun K "paints" "paints" s_paints a_paints d_paints
  g_paints : mg "paints" = some (.ref a_paints)
  b_paints : Binds K d_paints ["old", "new"] []
  a_painted : Addr
  d_painted : FuncData
  F_painted : Fun K "painted" "painted" s_painted a_painted d_painted
  g_painted : mg "painted" = some (.ref a_painted)
  b_painted : Binds K d_painted ["old", "runs"] []
  a_piece_end : Addr
  d_piece_end : FuncData
  F_piece_end : Fun K "piece_end" "piece_end" s_piece_end a_piece_end d_piece_end
  g_piece_end : mg "piece_end" = some (.ref a_piece_end)
  b_piece_end : Binds K d_piece_end ["row", "start", "width", "wordwise"] []
  a_laid : Addr
  d_laid : FuncData
  F_laid : Fun K "laid" "laid" s_laid a_laid d_laid
  g_laid : mg "laid" = some (.ref a_laid)
  a_rows_of : Addr
  d_rows_of : FuncData
  F_rows_of : Fun K "rows_of" "rows_of" s_rows_of a_rows_of d_rows_of
  g_rows_of : mg "rows_of" = some (.ref a_rows_of)
  b_rows_of : Binds K d_rows_of ["text"] []
  a_spot_of : Addr
  d_spot_of : FuncData
  F_spot_of : Fun K "spot_of" "spot_of" s_spot_of a_spot_of d_spot_of
  g_spot_of : mg "spot_of" = some (.ref a_spot_of)
  b_spot_of : Binds K d_spot_of ["text", "place"] []
  a_row_bounds : Addr
  d_row_bounds : FuncData
  F_row_bounds : Fun K "row_bounds" "row_bounds" s_row_bounds a_row_bounds d_row_bounds
  g_row_bounds : mg "row_bounds" = some (.ref a_row_bounds)
  b_row_bounds : Binds K d_row_bounds ["text", "line"] []
  a_row_at : Addr
  d_row_at : FuncData
  F_row_at : Fun K "row_at" "row_at" s_row_at a_row_at d_row_at
  g_row_at : mg "row_at" = some (.ref a_row_at)
  b_row_at : Binds K d_row_at ["screen_rows", "line", "column"] []
  a_place_in : Addr
  d_place_in : FuncData
  F_place_in : Fun K "place_in" "place_in" s_place_in a_place_in d_place_in
  g_place_in : mg "place_in" = some (.ref a_place_in)
  b_place_in : Binds K d_place_in ["screen_rows", "line", "column", "width"] []
  a_top_row : Addr
  d_top_row : FuncData
  F_top_row : Fun K "top_row" "top_row" s_top_row a_top_row d_top_row
  g_top_row : mg "top_row" = some (.ref a_top_row)
  b_top_row : Binds K d_top_row ["first", "caret", "height"] []
  a_low_high : Addr
  d_low_high : FuncData
  F_low_high : Fun K "low_high" "low_high" s_low_high a_low_high d_low_high
  g_low_high : mg "low_high" = some (.ref a_low_high)
  b_low_high : Binds K d_low_high ["pick"] []
  a_joined_stretches : Addr
  d_joined_stretches : FuncData
  F_joined_stretches : Fun K "joined_stretches" "joined_stretches" s_joined_stretches a_joined_stretches d_joined_stretches
  g_joined_stretches : mg "joined_stretches" = some (.ref a_joined_stretches)
  b_joined_stretches : Binds K d_joined_stretches ["stretches"] []
  a_lines_hidden : Addr
  d_lines_hidden : FuncData
  F_lines_hidden : Fun K "lines_hidden" "lines_hidden" s_lines_hidden a_lines_hidden d_lines_hidden
  g_lines_hidden : mg "lines_hidden" = some (.ref a_lines_hidden)
  b_lines_hidden : Binds K d_lines_hidden ["text", "folds"] []
  a_selected_flags : Addr
  d_selected_flags : FuncData
  F_selected_flags : Fun K "selected_flags" "selected_flags" s_selected_flags a_selected_flags d_selected_flags
  g_selected_flags : mg "selected_flags" = some (.ref a_selected_flags)
  b_selected_flags : Binds K d_selected_flags ["begin", "many", "stretches"] []
  a_tiled : Addr
  d_tiled : FuncData
  F_tiled : Fun K "tiled" "tiled" s_tiled a_tiled d_tiled
  g_tiled : mg "tiled" = some (.ref a_tiled)
  b_tiled : Binds K d_tiled ["text", "height", "tints", "layout", "picks", "folds", "top"] []
  a_screen_of : Addr
  d_screen_of : FuncData
  F_screen_of : Fun K "screen_of" "screen_of" s_screen_of a_screen_of d_screen_of
  g_screen_of : mg "screen_of" = some (.ref a_screen_of)
  a_law_pool : Addr
  d_law_pool : FuncData
  F_law_pool : Fun K "_law_pool" "_law_pool" s_law_pool a_law_pool d_law_pool
  g_law_pool : mg "_law_pool" = some (.ref a_law_pool)
  b_law_pool : Binds K d_law_pool ["_law_script"] []
  a_law_next : Addr
  d_law_next : FuncData
  F_law_next : Fun K "_law_next" "_law_next" s_law_next a_law_next d_law_next
  g_law_next : mg "_law_next" = some (.ref a_law_next)
  b_law_next : Binds K d_law_next ["_law_pool_here", "_law_many"] []
  a_law_signs : Addr
  d_law_signs : FuncData
  F_law_signs : Fun K "_law_signs" "_law_signs" s_law_signs a_law_signs d_law_signs
  g_law_signs : mg "_law_signs" = some (.ref a_law_signs)
  b_law_signs : Binds K d_law_signs [] []
  a_law_same : Addr
  d_law_same : FuncData
  F_law_same : Fun K "_law_same" "_law_same" s_law_same a_law_same d_law_same
  g_law_same : mg "_law_same" = some (.ref a_law_same)
  b_law_same : Binds K d_law_same ["_law_one", "_law_due_here"] []
  a_law_tile : Addr
  d_law_tile : FuncData
  F_law_tile : Fun K "_law_tile" "_law_tile" s_law_tile a_law_tile d_law_tile
  g_law_tile : mg "_law_tile" = some (.ref a_law_tile)
  b_law_tile : Binds K d_law_tile ["_law_pool_here", "_law_sort"] []
  a_law_near : Addr
  d_law_near : FuncData
  F_law_near : Fun K "_law_near" "_law_near" s_law_near a_law_near d_law_near
  g_law_near : mg "_law_near" = some (.ref a_law_near)
  b_law_near : Binds K d_law_near ["_law_pool_here", "_law_tile_here"] []
  a_law_screen : Addr
  d_law_screen : FuncData
  F_law_screen : Fun K "_law_screen" "_law_screen" s_law_screen a_law_screen d_law_screen
  g_law_screen : mg "_law_screen" = some (.ref a_law_screen)
  b_law_screen : Binds K d_law_screen ["_law_pool_here", "_law_wide", "_law_high"] []
  a_law_turned : Addr
  d_law_turned : FuncData
  F_law_turned : Fun K "_law_turned" "_law_turned" s_law_turned a_law_turned d_law_turned
  g_law_turned : mg "_law_turned" = some (.ref a_law_turned)
  b_law_turned : Binds K d_law_turned ["_law_pool_here", "_law_screen_here"] []
  a_law_due : Addr
  d_law_due : FuncData
  F_law_due : Fun K "_law_due" "_law_due" s_law_due a_law_due d_law_due
  g_law_due : mg "_law_due" = some (.ref a_law_due)
  b_law_due : Binds K d_law_due ["_law_one", "_law_other"] []
  a_law_spread : Addr
  d_law_spread : FuncData
  F_law_spread : Fun K "_law_spread" "_law_spread" s_law_spread a_law_spread d_law_spread
  g_law_spread : mg "_law_spread" = some (.ref a_law_spread)
  b_law_spread : Binds K d_law_spread ["_law_screen_here", "_law_strokes_here"] []
  a_law_strokes : Addr
  d_law_strokes : FuncData
  F_law_strokes : Fun K "_law_strokes" "_law_strokes" s_law_strokes a_law_strokes d_law_strokes
  g_law_strokes : mg "_law_strokes" = some (.ref a_law_strokes)
  b_law_strokes : Binds K d_law_strokes ["_law_pool_here", "_law_screen_here", "_law_other"] []
  a_law_pair : Addr
  d_law_pair : FuncData
  F_law_pair : Fun K "_law_pair" "_law_pair" s_law_pair a_law_pair d_law_pair
  g_law_pair : mg "_law_pair" = some (.ref a_law_pair)
  b_law_pair : Binds K d_law_pair ["_law_pool_here", "_law_one", "_law_other"] []
  a_law_text : Addr
  d_law_text : FuncData
  F_law_text : Fun K "_law_text" "_law_text" s_law_text a_law_text d_law_text
  g_law_text : mg "_law_text" = some (.ref a_law_text)
  b_law_text : Binds K d_law_text ["_law_pool_here"] []
  a_law : Addr
  d_law : FuncData
  F_law : Fun K "law" "law" s_law a_law d_law
  g_law : mg "law" = some (.ref a_law)
  b_law : Binds K d_law ["_law_script"] []
  a_Layout_init : Addr
  d_Layout_init : FuncData
  F_Layout_init : Fun K "__init__" "Layout.__init__" s_Layout_init a_Layout_init d_Layout_init
  a_Layout_refresh : Addr
  d_Layout_refresh : FuncData
  F_Layout_refresh : Fun K "refresh" "Layout.refresh" s_Layout_refresh a_Layout_refresh d_Layout_refresh
  b_Layout_refresh : Binds K d_Layout_refresh ["self", "rows"] []
  a_Layout_screen_rows : Addr
  d_Layout_screen_rows : FuncData
  F_Layout_screen_rows : Fun K "screen_rows" "Layout.screen_rows" s_Layout_screen_rows a_Layout_screen_rows d_Layout_screen_rows
  b_Layout_screen_rows : Binds K d_Layout_screen_rows ["self", "hidden"] []
  a_Tiler_init : Addr
  d_Tiler_init : FuncData
  F_Tiler_init : Fun K "__init__" "Tiler.__init__" s_Tiler_init a_Tiler_init d_Tiler_init
  b_Tiler_init : Binds K d_Tiler_init ["self", "text", "tints", "layout", "picks", "hidden"] []
  a_Tiler_index_at : Addr
  d_Tiler_index_at : FuncData
  F_Tiler_index_at : Fun K "index_at" "Tiler.index_at" s_Tiler_index_at a_Tiler_index_at d_Tiler_index_at
  b_Tiler_index_at : Binds K d_Tiler_index_at ["self", "place"] []
  a_Tiler_tile_at : Addr
  d_Tiler_tile_at : FuncData
  F_Tiler_tile_at : Fun K "tile_at" "Tiler.tile_at" s_Tiler_tile_at a_Tiler_tile_at d_Tiler_tile_at
  b_Tiler_tile_at : Binds K d_Tiler_tile_at ["self", "place"] []
  a_Tiler_is_above_fold : Addr
  d_Tiler_is_above_fold : FuncData
  F_Tiler_is_above_fold : Fun K "is_above_fold" "Tiler.is_above_fold" s_Tiler_is_above_fold a_Tiler_is_above_fold d_Tiler_is_above_fold
  b_Tiler_is_above_fold : Binds K d_Tiler_is_above_fold ["self", "index"] []
  a_Tiler_colours_of : Addr
  d_Tiler_colours_of : FuncData
  F_Tiler_colours_of : Fun K "colours_of" "Tiler.colours_of" s_Tiler_colours_of a_Tiler_colours_of d_Tiler_colours_of
  b_Tiler_colours_of : Binds K d_Tiler_colours_of ["self", "line", "start", "end"] []
  a_Tiler_tiles : Addr
  d_Tiler_tiles : FuncData
  F_Tiler_tiles : Fun K "tiles" "Tiler.tiles" s_Tiler_tiles a_Tiler_tiles d_Tiler_tiles
  b_Tiler_tiles : Binds K d_Tiler_tiles ["self", "index"] []
  dv_screen_of_picks : Addr
  du_screen_of_picks : KT K dv_screen_of_picks []
  dv_screen_of_folds : Addr
  du_screen_of_folds : KT K dv_screen_of_folds []
  tkd_screen_of_top : Tok
  kb_Tiler_init_0 : KBn K d_Tiler_init ["self", "text", "tints", "layout", "picks", "hidden"] 6 [] (gk_Tiler_init_0) (gk_Tiler_init_0)
  kb_Layout_init_0 : KBn K d_Layout_init ["self", "width", "wordwise"] 2 ["wordwise"] (gk_Layout_init_0) (gk_Layout_init_0)
  kb_painted_0 : KBinds K d_painted ["old", "runs"] ["runs", "old"] (gk_painted_0) (gk_painted_0)
  kb_paints_0 : KBinds K d_paints ["old", "new"] ["new", "old"] (gk_paints_0) (gk_paints_0)
  kb_screen_of_0 : KBinds K d_screen_of ["text", "width", "height", "wordwise", "book", "picks", "folds", "top"] [] (gk_screen_of_0 (.bool false) (.none) (.ref dv_screen_of_picks) (.ref dv_screen_of_folds) (.int 0 tkd_screen_of_top)) (gk_screen_of_0 (.bl false) (.non) (.ref dv_screen_of_picks) (.ref dv_screen_of_folds) (.int 0))
  kb_screen_of_1 : KBinds K d_screen_of ["text", "width", "height", "wordwise", "book", "picks", "folds", "top"] ["wordwise"] (gk_screen_of_1 (.none) (.ref dv_screen_of_picks) (.ref dv_screen_of_folds) (.int 0 tkd_screen_of_top)) (gk_screen_of_1 (.non) (.ref dv_screen_of_picks) (.ref dv_screen_of_folds) (.int 0))
  kb_laid_0 : KBinds K d_laid ["row", "width", "wordwise"] ["wordwise"] (gk_laid_0) (gk_laid_0)
  c_Layout : Addr
  g_Layout : mg "Layout" = some (.ref c_Layout)
  k_Layout : Cls K c_Layout
  mk_Layout : Mk K c_Layout a_Layout_init
  na_Layout_width : NoAttr K c_Layout "width"
  na_Layout_wordwise : NoAttr K c_Layout "wordwise"
  na_Layout_known : NoAttr K c_Layout "known"
  na_Layout_lines : NoAttr K c_Layout "lines"
  c_Tiler : Addr
  g_Tiler : mg "Tiler" = some (.ref c_Tiler)
  k_Tiler : Cls K c_Tiler
  mk_Tiler : Mk K c_Tiler a_Tiler_init
  na_Tiler_letters : NoAttr K c_Tiler "letters"
  na_Tiler_rows : NoAttr K c_Tiler "rows"
  na_Tiler_tints : NoAttr K c_Tiler "tints"
  na_Tiler_width : NoAttr K c_Tiler "width"
  na_Tiler_hidden : NoAttr K c_Tiler "hidden"
  na_Tiler_laid_rows : NoAttr K c_Tiler "laid_rows"
  na_Tiler_stretches : NoAttr K c_Tiler "stretches"
  na_Tiler_heads : NoAttr K c_Tiler "heads"
  m_Layout_refresh : Meth K c_Layout "refresh" a_Layout_refresh
  m_Layout_screen_rows : Meth K c_Layout "screen_rows" a_Layout_screen_rows
  m_Tiler_index_at : Meth K c_Tiler "index_at" a_Tiler_index_at
  m_Tiler_tile_at : Meth K c_Tiler "tile_at" a_Tiler_tile_at
  m_Tiler_is_above_fold : Meth K c_Tiler "is_above_fold" a_Tiler_is_above_fold
  m_Tiler_colours_of : Meth K c_Tiler "colours_of" a_Tiler_colours_of
  m_Tiler_tiles : Meth K c_Tiler "tiles" a_Tiler_tiles
  c_BadPlace : Addr
  ai_BadPlace : Addr
  d_BadPlace : FuncData
  F_BadPlace : Fun K "__init__" "BadPlace.__init__" s_init_BadPlace ai_BadPlace d_BadPlace
  b_BadPlace : Binds K d_BadPlace ["self", "at"] []
  g_BadPlace : mg "BadPlace" = some (.ref c_BadPlace)
  o_BadPlace : OexC K c_BadPlace
  x_BadPlace : XfC K c_BadPlace
  i_BadPlace : PySem.W.findIn K (.ref c_BadPlace) "__init__" = some (some (.ref ai_BadPlace))
  ti_BadPlace : PySem.W.typeIn K (.ref ai_BadPlace) = some (.type "function")
  e_BadPlace : PySem.W.exmOne K (.ref c_BadPlace) (.ref c_BadPlace) = some true
  na_BadPlace_at : PySem.W.findIn K (.ref c_BadPlace) "at" = some none
  t_SELECTED : Tok
  g_SELECTED : mg "SELECTED" = some (.int 1 t_SELECTED)
  t_HEAD_HERE : Tok
  g_HEAD_HERE : mg "HEAD_HERE" = some (.int 2 t_HEAD_HERE)
  t_FOLD_BELOW : Tok
  g_FOLD_BELOW : mg "FOLD_BELOW" = some (.int 4 t_FOLD_BELOW)
  a_EMPTY_TILE : Addr
  u_EMPTY_TILE : KT K a_EMPTY_TILE [.str " ", .int 0, .int 0]
  g_EMPTY_TILE : mg "EMPTY_TILE" = some (.ref a_EMPTY_TILE)
  t_ALPHABET : Tok
  g_ALPHABET : mg "ALPHABET" = some (.str "\n !\"#$&'()*+,-./0123456789:;<=>?@ABCDEFGHIJKLMNOPQRSTUVWXYZ[\\]^_`abcdefghijklmnopqrstuvwxyz{|}~" t_ALPHABET)
  n_abs : mg "abs" = none
  n_bool : mg "bool" = none
  n_enumerate : mg "enumerate" = none
  n_int : mg "int" = none
  n_isinstance : mg "isinstance" = none
  n_len : mg "len" = none
  n_list : mg "list" = none
  n_max : mg "max" = none
  n_min : mg "min" = none
  n_range : mg "range" = none
  n_set : mg "set" = none
  n_sorted : mg "sorted" = none
  n_str : mg "str" = none
  n_sum : mg "sum" = none
  n_tuple : mg "tuple" = none
def MP : Int := 2147483647
theorem natP {z : Int} (h0 : 0 ≤ z) (h : z < MP) : z.natAbs < 2 ^ 31 := by
  unfold MP at h
  have e : (2 : Nat) ^ 31 = 2147483648 := by decide
  omega
/-- the pool of draws: p, its list d -/
def pool (p d : Addr) : Box where
  A := fun x => x = p ∨ x = d
  B := fun H => d ≠ p ∧ ∃ (k : Nat) (z : Int) (ns : List Int), H p = some (.lst [.ref d, .int (k : Nat), .int z]) ∧ H d = some (.lst (ns.map V.int)) ∧ k ≤ ns.length ∧ ns.length ≤ 4000 ∧ 0 ≤ z ∧ z < MP
  live := fun H h x a => by
    obtain ⟨_, k, z, ns, h1, h2, _⟩ := h
    rcases a with rfl | rfl
    · exact ⟨_, h1⟩
    · exact ⟨_, h2⟩
  keep := fun H H' h e => by
    obtain ⟨n, k, z, ns, h1, h2, h3⟩ := h
    exact ⟨n, k, z, ns, e _ _ (.inl rfl) h1, e _ _ (.inr rfl) h2, h3⟩
def spPool (K : PySem.W.Frag) : Sp := fun vs H Q _ => ∃ (a : Addr) (ns : List Int), vs = [.ref a] ∧ SqL K H a (ns.map V.int) ∧ ns.length ≤ 63 ∧ ∀ p d H', Ex H H' → H p = none → H d = none → (pool p d).B H' → Q (.ref p) H'
def spNext : Sp := fun vs H Q _ => ∃ (p d : Addr) (n : Int), vs = [.ref p, .int n] ∧ (pool p d).B H ∧ 0 < n ∧ ∀ (v : Int) H', 0 ≤ v → v < n → Drw (pool p d) H H' → Q (.int v) H'
def SG : Str := "\n !\"#$&'()*+,-./0123456789:;<=>?@ABCDEFGHIJKLMNOPQRSTUVWXYZ[\\]^_`" ++ "abcdefghijklmnopqrstuvwxyz{|}~"
theorem SG_len : SG.length = 95 := by decide +kernel
def spSigns : Sp := fun vs H Q _ => vs = [] ∧ Q (.str SG) H
section
variable {P : Program} {w : World} {K : PySem.W.Frag} {mg : Str → Option Value} {base : Heap}
theorem ok_law_pool (T : Txt K mg) : FnOk P w K mg base CX0 1 T.a_law_pool T.d_law_pool ["_law_script"] (spPool K) := by
  refine T.F_law_pool.ok sc_law_pool (fun vs H Q E h => ?_) (fun cdv A outer s H vs Q E hr h => ?_)
  · obtain ⟨a, ns, rfl, _⟩ := h
    rfl
  · obtain ⟨a, ns, rfl, hS, hlen, q⟩ := h
    refine ⟨_, (pss_cons (ps_set (i := 1) sc_law_pool.nd rfl (Or.inl rfl) (pe_lst pa_nil))
        (pss_cons (ps_set (i := 2) sc_law_pool.nd rfl (Or.inl rfl) pe_int)
        (pss_cons (ps_for PassesOwn.never rfl (pi_list (pv 0)) (pg_name (i := 3) sc_law_pool.nd rfl (Or.inl rfl)) (pss_cons (ps_set (i := 4) sc_law_pool.nd rfl (Or.inl rfl) (pe_callB call_absU (by rfl) T.n_abs (by decide +kernel) (pa_cons (pv 3) pa_nil)))
        (pss_cons (ps_set (i := 2) sc_law_pool.nd rfl (Or.inl rfl) (pe_op op_modP (pe_callTy call_intU (by rfl) T.n_int (by decide +kernel) (pa_cons (pe_op op_addU (pe_op op_addU (pe_op op_addU (pe_op op_mulWW (pv 2) pe_int) (pv 4)) (pe_op op_mulWW pe_int (pe_callTy call_intU (by rfl) T.n_int (by decide +kernel) (pa_cons (pe_cmpR op_lt (pv 3) pe_int (nomark _)) pa_nil)))) pe_int) pa_nil)) pe_int))
        (pss_one (ps_if (pt_cmpR op_lt (pv 4) (pe_op op_pow pe_int pe_int) (nomark _)) (pss_cons (ps_expr (pe_bm PySem.F.plainAttrs_list PySem.F.slot_list_append PySem.F.type_list_append mt_append (pv 1) (pa_cons (pe_op op_modP (pe_callTy call_intU (by rfl) T.n_int (by decide +kernel) (pa_cons (pe_op op_addU (pe_op op_mulWW (pv 4) pe_int) (pe_op op_divW (pv 2) pe_int)) pa_nil)) pe_int) pa_nil)))
        (pss_one (ps_expr (pe_bm PySem.F.plainAttrs_list PySem.F.slot_list_append PySem.F.type_list_append mt_append (pv 1) (pa_cons (pe_op op_modP (pe_callTy call_intU (by rfl) T.n_int (by decide +kernel) (pa_cons (pe_op op_addU (pe_op op_divW (pv 4) pe_int) (pe_op op_mulWW (pv 2) pe_int)) pa_nil)) pe_int) pa_nil))))) (pss_one (ps_for PassesOwn.never rfl (pi_range1 (by rfl) T.n_range (pa_cons pe_int pa_nil)) (pg_name (i := 5) sc_law_pool.nd rfl (Or.inl rfl)) (pss_cons (ps_if (pt_cmpR (op_eqU hr.units) (pv 4) pe_int (nomark _)) (pss_one ps_break) pss_nil)
        (pss_cons (ps_expr (pe_bm PySem.F.plainAttrs_list PySem.F.slot_list_append PySem.F.type_list_append mt_append (pv 1) (pa_cons (pe_op op_modP (pe_callTy call_intU (by rfl) T.n_int (by decide +kernel) (pa_cons (pv 4) pa_nil)) pe_int) pa_nil)))
        (pss_one (ps_set (i := 4) sc_law_pool.nd rfl (Or.inl rfl) (pe_op op_divW (pv 4) pe_int))))))))))))
        (pss_one (ps_ret (pe_lst (pa_cons (pv 1) (pa_cons pe_int (pa_cons (pv 2) pa_nil))))))))), ?_⟩
    walk_at "rd"
    refine r_small nsz fun d hd => ?_
    have e0 : Ex H (upd H d (.lst [])) := Same.new (Same.refl H) hd
    walk_at "rd"
    refine l_L (SqL.up e0 hS) (fun i σ H' => ∃ z y1 y2 y3 ds, σ = [some (.ref a), some (.ref d), some (.int z), y1, y2, y3] ∧ 0 ≤ z ∧ z < MP ∧ Ex H H' ∧ H' d = some (.lst (List.map V.int ds)) ∧ ds.length ≤ 60 * i) ⟨_, none, none, none, [], rfl, by decide, by decide, e0, upd_same, Nat.le_refl _⟩ (fun i σ H' h => ?_) (fun i x σ H' hx hP => ?_) (fun σ H' hP => ?_)
    · obtain ⟨_, _, _, _, _, _, _, _, e, _⟩ := h
      exact SqL.up e hS
    · obtain ⟨z, y1, y2, y3, ds, rfl, z0, z1, e, hd', hl⟩ := hP
      obtain ⟨c, hc, rfl⟩ : ∃ c, ns[i]? = some c ∧ x = V.int c := by
        rw [List.getElem?_map] at hx
        cases e : ns[i]? with
        | none => rw [e] at hx; cases hx
        | some c => rw [e] at hx; exact ⟨c, rfl, (Option.some.inj hx).symm⟩
      have hi : i < ns.length := (List.getElem?_eq_some_iff.mp hc).1
      walk_at "rd"
      refine r_abs ?_
      walk_at "rd"
      refine r_mulW (wide_mul (a := 31) (b := 33) (natP z0 z1) (by decide) (by decide) (by decide) (by decide)) ?_
      walk_at "rd"
      refine r_bool ?_
      refine r_mulW (wide_mul (a := 31) (b := 33) (by decide) (by split <;> decide) (by decide) (by decide) (by decide)) ?_
      walk_at "rs"
      have mx : ∀ e : Int, 0 ≤ e % 2147483399 ∧ e % 2147483399 < MP := fun e => ⟨Int.emod_nonneg _ (by decide), Int.lt_trans (Int.emod_lt_of_pos _ (by decide)) (by decide)⟩
      walk_at "rd"
      refine r_I (by unfold CPow; decide) ?_
      have e18 : (10 : Int) ^ ((18 : Int)).toNat = 1000000000000000000 := by decide
      obtain ⟨C, hC⟩ : ∃ C : Int, C = 1000000000000000000 := ⟨_, rfl⟩
      rw [e18, ← hC]
      walk_at "rd"
      refine r_ite (fun hb => ?_) (fun hb => ?_)
      · have w60 : (c.natAbs : Int).natAbs < 2 ^ 60 := by
          rw [Int.natAbs_natCast]
          have e60 : (2 : Nat) ^ 60 = 1152921504606846976 := by decide
          omega
        generalize hZ : (z * 40692 + ↑c.natAbs + 3 * (if decide (c < 0) = true then 1 else 0) + 37) % 2147483399 = Z
        have hz := mx (z * 40692 + ↑c.natAbs + 3 * (if decide (c < 0) = true then 1 else 0) + 37)
        rw [hZ] at hz
        walk_at "rd"
        refine r_tyL (sqL hd') ?_
        walk_at "rd"
        refine r_mulW (wide_mul (a := 60) (b := 33) w60 (by decide) (by decide) (by decide) (by decide)) ?_
        walk_at "rd"
        refine r_divW (wide_div (b := 17) (by decide) (by decide) (by decide) (by decide)) ?_
        walk_at "rd"
        refine r_app hd' (by rw [List.length_map]; exact Nat.lt_of_le_of_lt (show ds.length ≤ 4000 by omega) (by decide)) ?_
        walk_at "rd"
        refine r_tyL (sqL upd_same) ?_
        walk_at "rd"
        refine r_divW (wide_div (b := 17) (by decide) (by decide) (by decide) (by decide)) ?_
        walk_at "rd"
        refine r_mulW (wide_mul (a := 31) (b := 33) (natP hz.1 hz.2) (by decide) (by decide) (by decide) (by decide)) ?_
        walk_at "rd"
        refine r_app upd_same (by rw [List.length_append, List.length_map]; exact Nat.lt_of_le_of_lt (show ds.length + 1 ≤ 4000 by omega) (by decide)) ?_
        walk_at "rd"
        refine ⟨Z, _, _, y3, ds ++ [_] ++ [_], rfl, hz.1, hz.2, Same.mut (Same.mut e hd) hd, by rw [upd_same, List.map_append, List.map_append]; rfl, ?_⟩
        rw [List.length_append, List.length_append]
        show ds.length + 1 + 1 ≤ _
        omega
      · have hz := mx (z * 40692 + ↑c.natAbs + 3 * (if decide (c < 0) = true then 1 else 0) + 37)
        generalize hZ : (z * 40692 + ↑c.natAbs + 3 * (if decide (c < 0) = true then 1 else 0) + 37) % 2147483399 = Z at hz
        walk_at "rd"
        refine l_R (by decide) (by decide) (fun j σ H1 => ∃ (s : Int), ∃ y5 ds', σ = [some (.ref a), some (.ref d), some (.int Z), some (.int c), some (.int s), y5] ∧ Ex H H1 ∧ H1 d = some (.lst (List.map V.int ds')) ∧ ds'.length ≤ 60 * i + j) ⟨_, y3, ds, rfl, e, hd', by omega⟩ (fun j σ H1 hj hP => ?_) (fun σ H1 hP => ?_)
        · obtain ⟨s, y5, ds', rfl, e', hd'', hl'⟩ := hP
          walk_at "rd"
          refine r_ite (fun h0 => ?_) (fun h0 => ?_)
          · walk_at "rd"
            exact ⟨_, _, _, _, ds', rfl, hz.1, hz.2, e', hd'', by omega⟩
          · walk_at "rd"
            refine r_tyL (sqL hd'') ?_
            walk_at "rd"
            refine r_app hd'' (by rw [List.length_map]; exact Nat.lt_of_le_of_lt (show ds'.length ≤ 4000 by omega) (by decide)) ?_
            walk_at "rd"
            refine r_divW (wide_div (b := 17) (by decide) (by decide) (by decide) (by decide)) ?_
            walk_at "rd"
            refine ⟨_, _, ds' ++ [_], rfl, Same.mut e' hd, by rw [upd_same, List.map_append]; rfl, ?_⟩
            rw [List.length_append]
            show ds'.length + 1 ≤ _
            omega
        · obtain ⟨s, y5, ds', rfl, e', hd'', hl'⟩ := hP
          exact ⟨_, _, _, _, ds', rfl, hz.1, hz.2, e', hd'', by have h60 : (60 : Int).toNat = 60 := rfl; rw [h60] at hl'; omega⟩
    · obtain ⟨z, y1, y2, y3, ds, rfl, z0, z1, e, hd', hl⟩ := hP
      rw [List.length_map] at hl
      walk_at "rd"
      refine r_small nsz fun p hp => ?_
      have hne : p ≠ d := fun z => by rw [z, hd'] at hp; cases hp
      exact q p d _ (e.trans (Same.new (Same.refl _) hp)) (e.free hp) hd ⟨Ne.symm hne, 0, z, ds, upd_same, by rw [upd_ne (Ne.symm hne)]; exact hd', by omega, by omega, z0, z1⟩
theorem ok_law_next (T : Txt K mg) : FnOk P w K mg base CX0 1 T.a_law_next T.d_law_next ["_law_pool_here", "_law_many"] spNext := by
  refine T.F_law_next.ok sc_law_next (fun vs H Q E h => ?_) (fun cdv A outer s H vs Q E hr h => ?_)
  · obtain ⟨p, d, n, rfl, _⟩ := h
    rfl
  · obtain ⟨p, d, n, rfl, ⟨ne, k, z, ns, hp, hd, hk, hn, z0, z1⟩, n0, q⟩ := h
    refine ⟨_, (pss_cons (ps_if (pt_cmpR op_lt (pe_ix ix_seq (pv 0) pe_int (fun _ _ => rfl)) (pe_callB call_lenU (by rfl) T.n_len (by decide +kernel) (pa_cons (pe_ix ix_seq (pv 0) pe_int (fun _ _ => rfl)) pa_nil)) (nomark _)) (pss_cons (ps_asg (pe_op op_addU (pe_ix ix_seq (pv 0) pe_int (fun _ _ => rfl)) pe_int) (pg_sub (pv 0) pe_int set_list))
        (pss_one (ps_ret (pe_op op_modP (pe_callTy call_intU (by rfl) T.n_int (by decide +kernel) (pa_cons (pe_ix ix_seq (pe_ix ix_seq (pv 0) pe_int (fun _ _ => rfl)) (pe_op op_sub (pe_ix ix_seq (pv 0) pe_int (fun _ _ => rfl)) pe_int) (fun _ _ => rfl)) pa_nil)) (pv 1))))) pss_nil)
        (pss_cons (ps_asg (pe_op op_modP (pe_callTy call_intU (by rfl) T.n_int (by decide +kernel) (pa_cons (pe_op op_addU (pe_op op_mulWW (pe_ix ix_seq (pv 0) pe_int (fun _ _ => rfl)) pe_int) pe_int) pa_nil)) pe_int) (pg_sub (pv 0) pe_int set_list))
        (pss_one (ps_ret (pe_op op_modP (pe_callTy call_intU (by rfl) T.n_int (by decide +kernel) (pa_cons (pe_op op_divW (pe_ix ix_seq (pv 0) pe_int (fun _ _ => rfl)) pe_int) pa_nil)) (pv 1)))))), ?_⟩
    walk_at "rd"
    refine r_ixL (sqL hp) (atI_nat (j := 1) rfl) ?_
    walk_at "rd"
    refine r_ixL (sqL hp) (atI_nat (j := 0) rfl) ?_
    walk_at "rd"
    refine r_lenL (sqL hd) ?_
    rw [List.length_map]
    walk_at "rd"
    refine r_ite (fun hb => ?_) (fun hb => ?_)
    · have hkl : k < ns.length := by omega
      walk_at "rd"
      refine r_ixL (sqL hp) (atI_nat (j := 1) rfl) ?_
      walk_at "rd"
      refine r_setL hp (n := 1) rfl ?_
      walk_at "rd"
      refine r_ixL (sqL upd_same) (atI_nat (j := 0) rfl) ?_
      walk_at "rd"
      refine r_ixL (sqL upd_same) (atI_nat (j := 1) rfl) ?_
      walk_at "rd"
      refine r_ixL (sqL (by rw [upd_ne ne]; exact hd)) (at_g (j := k) (by omega) (by rw [List.getElem?_map, List.getElem?_eq_getElem hkl]; rfl)) ?_
      walk_at "rd"
      refine r_modP n0 ?_
      refine q _ _ (Int.emod_nonneg _ (by omega)) (Int.emod_lt_of_pos _ n0) ⟨fun x o h e => by rw [upd_ne (fun z => h (.inl z))]; exact e, ne, k + 1, z, ns, ?_, by rw [upd_ne ne]; exact hd, hkl, hn, z0, z1⟩
      rw [upd_same]
      rfl
    · walk_at "rd"
      refine r_ixL (sqL hp) (atI_nat (j := 2) rfl) ?_
      walk_at "rd"
      refine r_mulW (wide_mul (a := 31) (b := 33) (natP z0 z1) (by decide) (by decide) (by decide) (by decide)) ?_
      walk_at "rd"
      refine r_setL hp (n := 2) rfl ?_
      walk_at "rd"
      refine r_ixL (sqL upd_same) (atI_nat (j := 2) rfl) ?_
      walk_at "rd"
      refine r_divW (wide_div (b := 17) (by decide) (by decide) (by decide) (by decide)) ?_
      walk_at "rd"
      refine r_modP n0 ?_
      refine q _ _ (Int.emod_nonneg _ (by omega)) (Int.emod_lt_of_pos _ n0) ⟨fun x o h e => by rw [upd_ne (fun z => h (.inl z))]; exact e, ne, k, _, ns, upd_same, by rw [upd_ne ne]; exact hd, hk, hn, Int.emod_nonneg _ (by decide), Int.emod_lt_of_pos _ (by decide)⟩
theorem ok_law_signs (T : Txt K mg) : FnOk P w K mg base CX0 1 T.a_law_signs T.d_law_signs [] spSigns := by
  refine T.F_law_signs.ok sc_law_signs (fun vs H Q E h => ?_) (fun cdv A outer s H vs Q E hr h => ?_)
  · obtain ⟨rfl, _⟩ := h
    rfl
  · obtain ⟨rfl, q⟩ := h
    refine ⟨_, (pss_cons (ps_set (i := 0) sc_law_signs.nd rfl (Or.inl rfl) pe_str)
        (pss_one (ps_ret (pe_op op_addU (pv 0) pe_str)))), ?_⟩
    walk_at "rd"
    refine r_addS (by decide +kernel) ?_
    exact q
end
end K63

namespace K63
open PySem PySem.Spec PyProof.Rows L2 Dk Q61
/-- one step of a reading -/
local macro_rules | `(tactic| walk_at "rd1") => `(tactic| first
  | ((with_reducible refine r_var (v := ?rv) ?rh ?_); (case rh => rfl))
  | with_reducible refine r_c ?_
  | with_reducible refine r_seq ?_
  | with_reducible refine r_asg ?_
  | with_reducible refine r_par ?_
  | with_reducible refine r_gname ?_
  | with_reducible refine r_op ?_
  | with_reducible refine r_forLo ?_
  | with_reducible refine r_forTo ?_
  | with_reducible refine r_forSo ?_
  | with_reducible refine r_forRo ?_
  | with_reducible refine r_forRvo ?_
  | with_reducible refine r_forZo ?_
  | with_reducible refine r_revS ?_
  | with_reducible refine r_lcRo ?_
  | with_reducible refine r_lcLo ?_
  | with_reducible refine r_yes ?_
  | with_reducible refine r_callK0 ?_
  | with_reducible refine r_break ?_
  | with_reducible refine r_continue ?_
  | with_reducible refine r_forR2o ?_
  | with_reducible refine r_forEo ?_
  | with_reducible refine r_forESo ?_
  | with_reducible refine r_xfo ?_
  | with_reducible refine r_noP ?_
  | with_reducible refine r_part ?_
  | with_reducible refine r_pI ?_
  | with_reducible refine r_gcons ?_
  | with_reducible refine r_gnil ?_
  | with_reducible refine r_mkO ?_
  | with_reducible refine r_un ?_
  | with_reducible refine r_addI ?_
  | with_reducible refine r_I0 ?_
  | with_reducible refine r_U ?_
  | with_reducible refine r_cons ?_
  | with_reducible refine r_nil ?_
  | with_reducible refine r_CB ?_
  | with_reducible refine r_call ?_
  | with_reducible refine r_callS ?_
  | with_reducible refine r_int ?_
  | with_reducible refine r_max ?_
  | with_reducible refine r_min ?_
  | with_reducible refine r_test ?_
  | with_reducible refine r_B ?_
  | with_reducible refine r_blv ?_
  | with_reducible refine r_and ?_
  | with_reducible refine r_or ?_
  | with_reducible refine r_not ?_
  | with_reducible refine r_andV ?_
  | with_reducible refine r_orV ?_
  | with_reducible refine r_notV ?_
  | with_reducible refine r_ifE ?_
  | with_reducible refine r_ifS ?_
  | with_reducible refine r_ret ?_
  | with_reducible refine r_retN ?_
  | with_reducible refine r_drop ?_
  | with_reducible refine r_next ?_
  | with_reducible refine r_sl ?_
  | with_reducible refine r_gsub ?_
  | with_reducible refine r_bm ?_
  | with_reducible refine r_bm0 ?_
  | with_reducible refine r_tup ?_
  | with_reducible refine r_lst ?_
  | with_reducible refine r_isN ?_
  | with_reducible refine r_notN ?_
  | with_reducible refine r_chain ?_
  | with_reducible refine r_callK ?_
  | with_reducible refine r_isB ?_
  | with_reducible refine r_lcEio ?_
  | with_reducible refine r_forEi ?_
  | with_reducible refine r_lcTo ?_
  | with_reducible refine r_lcSo ?_
  | with_reducible refine r_m1 ?_
  | with_reducible refine r_dget ?_
  | with_reducible refine r_din ?_
  | with_reducible refine r_dnotin ?_
  | with_reducible refine Tc.r_inC ?_
  | with_reducible refine Tc.r_getC ?_
  | with_reducible refine r_starC ?_
  | with_reducible refine r_callKS ?_
  | with_reducible refine Dk.r_fld ?_
  | with_reducible refine Dk.r_sfld ?_
  | with_reducible refine Dk.r_meth ?_
  | with_reducible refine Dk.r_methK ?_
  | with_reducible refine Dk.r_methT ?_
  | with_reducible refine Dk.r_makeK ?_
  | with_reducible refine r_itt ?_
  | with_reducible refine r_iff ?_
  | with_reducible refine r_ittN ?_
  | with_reducible refine r_iffN ?_
  | ((with_reducible refine r_ittD ?rh ?_); (case rh => rfl))
  | ((with_reducible refine r_iffD ?rh ?_); (case rh => rfl))
  | ((with_reducible refine r_modP ?rh ?_); (case rh => decide))
  | ((with_reducible refine r_eq ?rh ?_); (case rh => rfl))
  | ((with_reducible refine r_eqP ?rh ?_); (case rh => rfl))
  | ((with_reducible refine r_ne ?rh ?_); (case rh => rfl)))
local macro_rules | `(tactic| walk_at "rd") => `(tactic| repeat walk_at "rd1")
local macro_rules | `(tactic| walk_at "isi") => `(tactic| first | refine r_isi (b := true) (by assumption) (by decide +kernel) ?_ | refine r_isi (b := false) (by assumption) (by decide +kernel) ?_)
local macro_rules | `(tactic| walk_at "rs1") => `(tactic| first
  | with_reducible refine r_seq ?_
  | with_reducible refine r_asg ?_
  | with_reducible refine r_gname ?_
  | with_reducible refine r_ret ?_)
local macro_rules | `(tactic| walk_at "rs") => `(tactic| repeat walk_at "rs1")

def spc (z : Str) (i : Nat) : Bool := decide ((cs z)[i]? = some 32)
theorem blank : (" " : Str) = ⟨#[32]⟩ := rfl
def spCut (K : PySem.W.Frag) : Sp := fun vs H Q _ => ∃ (z : Str) (n : Nat) (b : Bool), vs = [.str z, .int (n : Nat), .bl b] ∧ z.length ≤ 700 ∧ 1 ≤ n ∧ n ≤ 100 ∧ ∀ v t H', Ex H H' → IsT (spc z) n b z.length t → TupV K (SgV K) H' v (pcl (spc z) n b z.length t) → Q v H'
/-- the same to the eye of the law: v against u -/
def Sm (K : PySem.W.Frag) (H : Hp) : Nat → V → V → Prop
  | 0 => fun _ _ => False
  | d + 1 => fun v u => (∃ i : Int, v = .int i ∧ u = .int i) ∨ (∃ b : Bool, v = .bl b ∧ u = .bl b) ∨ (∃ z : Str, z.length ≤ 1000 ∧ v = .str z ∧ u = .str z) ∨ ∃ p q xs ys, v = .ref p ∧ u = .ref q ∧ Tu K H p xs ∧ Tu K H q ys ∧ xs.length ≤ 100000 ∧ P2 (Sm K H d) xs ys
theorem Sm.up {K : PySem.W.Frag} {H H' : Hp} (e : Ex H H') : ∀ {d : Nat} {v u : V}, Sm K H d v u → Sm K H' d v u
  | 0, _, _, h => h.elim
  | d + 1, v, u, h => by
    rcases h with h | h | h | ⟨p, q, xs, ys, h1, h2, h3, h4, h5, h6⟩
    · exact .inl h
    · exact .inr (.inl h)
    · exact .inr (.inr (.inl h))
    · exact .inr (.inr (.inr ⟨p, q, xs, ys, h1, h2, h3.up e, h4.up e, h5, h6.imp fun _ _ z => Sm.up e z⟩))
def spSame (K : PySem.W.Frag) (d : Nat) : Sp := fun vs H Q _ => ∃ v u, vs = [v, u] ∧ Sm K H d v u ∧ ∀ H', Ex H H' → Q (.bl true) H'
/-- in a suite: plain things alone -/
def spSameH : Sp := fun vs H Q _ => ∃ v, vs = [v, v] ∧ ((∃ i : Int, v = .int i) ∨ ∃ z : Str, z.length ≤ 1000 ∧ v = .str z) ∧ Q (.bl true) H
def tyT {K : PySem.W.Frag} {H : Hp} {p : Addr} {xs : List V} (h : Tu K H p xs) : TyX K H (.ref p) (.type "tuple") := by
  rcases h with h | ⟨o, its, n, h1, h2, _⟩
  · exact .base (.tup h)
  · exact .kTuple h1 h2
theorem sm_sg {K : PySem.W.Frag} {H : Hp} {v u : V} {x : Tl.Sg} (h : SgV K H v x) (g : SgV K H u x) {d : Nat} : Sm K H (d + 2) v u := by
  obtain ⟨p, rfl, hp⟩ := h
  obtain ⟨q, rfl, hq⟩ := g
  exact .inr (.inr (.inr ⟨p, q, _, _, rfl, rfl, hp.tu, hq.tu, Nat.le_of_ble_eq_true rfl, .cons (.inl ⟨_, rfl, rfl⟩) (.cons (.inl ⟨_, rfl, rfl⟩) .nil)⟩))
theorem sm_tv {K : PySem.W.Frag} {H : Hp} {v u : V} {l : List Tl.Sg} (h : TupV K (SgV K) H v l) (g : TupV K (SgV K) H u l) (hl : l.length ≤ 100000) {d : Nat} : Sm K H (d + 3) v u := by
  obtain ⟨p, xs, rfl, hp, hx⟩ := h
  obtain ⟨q, ys, rfl, hq, hy⟩ := g
  exact .inr (.inr (.inr ⟨p, q, _, _, rfl, rfl, hp, hq, by rw [hx.len]; exact hl, hx.join (S := SgV K H) (fun a b c h1 h2 => sm_sg h1 h2) hy⟩))
theorem sz7 {z : Str} (h : z.length ≤ 1000) : z.length ≤ sizeLine := by rw [sizeLine_eq]; omega
section
variable {P : Program} {w : World} {K : PySem.W.Frag} {mg : Str → Option Value} {base : Heap}
theorem ok_same (T : Txt K mg) : ∀ d, FnOk P w K mg base CX0 d T.a_law_same T.d_law_same ["_law_one", "_law_due_here"] (spSame K d) := by
  intro d
  induction d with
  | zero => exact ⟨fun vs H Q E h => by
      obtain ⟨_, _, _, h, _⟩ := h
      exact h.elim, fun A outer s H args us vs Q E _ _ _ _ h => by
      obtain ⟨_, _, _, h, _⟩ := h
      exact h.elim⟩
  | succ d ih =>
    have ok_law_same : Txt K mg → FnOk P w K mg base CX0 d T.a_law_same T.d_law_same ["_law_one", "_law_due_here"] (spSame K d) := fun _ => ih
    refine T.F_law_same.ok sc_law_same (fun vs H Q E h => ?_) (fun cdv A outer s H vs Q E hr h => ?_)
    · obtain ⟨v, u, rfl, _⟩ := h
      rfl
    · obtain ⟨v, u, rfl, h, q⟩ := h
      have hr1 := hr
      refine ⟨_, (pss_cons (ps_if (pt_cmpR op_isU (pv 1) pe_non (nomark _)) (pss_one (ps_ret (pe_cmpR op_isU (pv 0) pe_non (nomark _)))) pss_nil)
        (pss_cons (ps_if (pt_cmpR op_isB (pv 1) pe_bl (nomark _)) (pss_one (ps_ret (pe_cmpR op_isB (pv 0) pe_bl (nomark _)))) pss_nil)
        (pss_cons (ps_if (pt_cmpR op_isB (pv 1) pe_bl (nomark _)) (pss_one (ps_ret (pe_cmpR op_isB (pv 0) pe_bl (nomark _)))) pss_nil)
        (pss_cons (ps_if (pt_val (pe_callB call_isi (by rfl) T.n_isinstance (by decide +kernel) (pa_cons (pv 1) (pa_cons (pe_bltn (v := .ty "int") (by rfl) T.n_int (by decide +kernel) rfl) pa_nil)))) (pss_one (ps_ret (pe_and (pe_callB call_isi (by rfl) T.n_isinstance (by decide +kernel) (pa_cons (pv 0) (pa_cons (pe_bltn (v := .ty "int") (by rfl) T.n_int (by decide +kernel) rfl) pa_nil))) (pe_and (pe_not (pe_callB call_isi (by rfl) T.n_isinstance (by decide +kernel) (pa_cons (pv 0) (pa_cons (pe_bltn (v := .ty "bool") (by rfl) T.n_bool (by decide +kernel) rfl) pa_nil)))) (pe_one (pe_cmpR (op_eqU hr.units) (pv 0) (pv 1) (nomark _))))))) pss_nil)
        (pss_cons (ps_if (pt_val (pe_callB call_isi (by rfl) T.n_isinstance (by decide +kernel) (pa_cons (pv 1) (pa_cons (pe_bltn (v := .ty "str") (by rfl) T.n_str (by decide +kernel) rfl) pa_nil)))) (pss_one (ps_ret (pe_and (pe_callB call_isi (by rfl) T.n_isinstance (by decide +kernel) (pa_cons (pv 0) (pa_cons (pe_bltn (v := .ty "str") (by rfl) T.n_str (by decide +kernel) rfl) pa_nil))) (pe_one (pe_cmpR (op_eqU hr.units) (pv 0) (pv 1) (nomark _)))))) pss_nil)
        (pss_cons (ps_if (pt_val (pe_callB call_isi (by rfl) T.n_isinstance (by decide +kernel) (pa_cons (pv 1) (pa_cons (pe_bltn (v := .ty "list") (by rfl) T.n_list (by decide +kernel) rfl) pa_nil)))) (pss_one (ps_if (pt_not (pt_val (pe_callB call_isi (by rfl) T.n_isinstance (by decide +kernel) (pa_cons (pv 0) (pa_cons (pe_bltn (v := .ty "list") (by rfl) T.n_list (by decide +kernel) rfl) pa_nil))))) (pss_one (ps_ret pe_bl)) pss_nil)) (pss_one (ps_if (pt_not (pt_val (pe_callB call_isi (by rfl) T.n_isinstance (by decide +kernel) (pa_cons (pv 0) (pa_cons (pe_bltn (v := .ty "tuple") (by rfl) T.n_tuple (by decide +kernel) rfl) pa_nil))))) (pss_one (ps_ret pe_bl)) pss_nil)))
        (pss_cons (ps_if (pt_cmpR (op_neU hr.units) (pe_callB call_lenU (by rfl) T.n_len (by decide +kernel) (pa_cons (pv 0) pa_nil)) (pe_callB call_lenU (by rfl) T.n_len (by decide +kernel) (pa_cons (pv 1) pa_nil)) (nomark _)) (pss_one (ps_ret pe_bl)) pss_nil)
        (pss_cons (ps_for PassesOwn.never rfl (pi_range1 (by rfl) T.n_range (pa_cons (pe_callB call_lenU (by rfl) T.n_len (by decide +kernel) (pa_cons (pv 1) pa_nil)) pa_nil)) (pg_name (i := 2) sc_law_same.nd rfl (Or.inl rfl)) (pss_one (ps_if (pt_not (pt_val (pe_call (ok_law_same T) hr1 (by rfl) T.g_law_same T.F_law_same.kp T.b_law_same .nil pass0 (pa_cons (pe_ix ix_seq (pv 0) (pv 2) (fun _ _ => rfl)) (pa_cons (pe_ix ix_seq (pv 1) (pv 2) (fun _ _ => rfl)) pa_nil))))) (pss_one (ps_ret pe_bl)) pss_nil)))
        (pss_one (ps_ret pe_bl)))))))))), ?_⟩
      rcases h with ⟨i, rfl, rfl⟩ | ⟨b, rfl, rfl⟩ | ⟨z, hz, rfl, rfl⟩ | ⟨p, p2, xs, ys, rfl, rfl, hp, hp2, hl, hP⟩
      · have ty : TyX K H (.int i) (.type "int") := .base (.int i)
        walk_at "rd"
        iterate 3 (walk_at "isi"; walk_at "rd")
        rw [show decide (V.int i = V.int i) = true from decide_eq_true rfl]
        exact q _ (Same.refl H)
      · cases b with
        | true =>
          walk_at "rd"
          exact q _ (Same.refl H)
        | false =>
          walk_at "rd"
          exact q _ (Same.refl H)
      · have ty : TyX K H (.str z) (.type "str") := .base (.str z)
        walk_at "rd"
        iterate 3 (walk_at "isi"; walk_at "rd")
        rw [show decide (V.str z = V.str z) = true from decide_eq_true rfl]
        exact q _ (Same.refl H)
      · have ty : TyX K H (.ref p) (.type "tuple") := tyT hp
        have ty2 : TyX K H (.ref p2) (.type "tuple") := tyT hp2
        walk_at "rd"
        iterate 4 (walk_at "isi"; walk_at "rd")
        refine r_lenT hp.sq ?_
        walk_at "rd"
        refine r_lenT hp2.sq ?_
        walk_at "rd"
        have el : xs.length = ys.length := hP.len
        refine r_iteN (fun hn => absurd (by rw [el]) hn) (fun _ => ?_)
        walk_at "rd"
        refine r_lenT hp2.sq ?_
        walk_at "rd"
        refine l_R (by omega) (by omega) (fun i σ H' => ∃ z, σ = [some (.ref p), some (.ref p2), z] ∧ Ex H H') ⟨none, rfl, Same.refl H⟩ (fun i σ H' hi hW => ?_) (fun σ H' hW => ?_)
        · obtain ⟨z, rfl, e⟩ := hW
          obtain ⟨x, hx⟩ : ∃ x, xs[i]? = some x := ⟨_, List.getElem?_eq_getElem (by omega)⟩
          obtain ⟨y, hy, hxy⟩ := hP.get hx
          walk_at "rd"
          refine r_ixT (hp.up e).sq (atI_nat hx) ?_
          walk_at "rd"
          refine r_ixT (hp2.up e).sq (atI_nat hy) ?_
          walk_at "rd"
          refine ⟨x, y, rfl, hxy.up e, fun H2 e2 => ?_⟩
          walk_at "rd"
          exact ⟨_, rfl, e.trans e2⟩
        · obtain ⟨z, rfl, e⟩ := hW
          walk_at "rd"
          exact q _ e
theorem ok_law_same (T : Txt K mg) : FnOk P w K mg base CX0 5 T.a_law_same T.d_law_same ["_law_one", "_law_due_here"] (spSame K 5) := ok_same T 5
def spEnd : Sp := fun vs H Q _ => ∃ (z : Str) (s n : Nat) (b : Bool), vs = [.str z, .int (s : Nat), .int (n : Nat), .bl b] ∧ 1 ≤ n ∧ s + n ≤ z.length ∧ Q (.int (gr (spc z) n b s : Nat)) H
theorem ok_piece_end (T : Txt K mg) : FnOk P w K mg base CX0 1 T.a_piece_end T.d_piece_end ["row", "start", "width", "wordwise"] spEnd := by
  refine T.F_piece_end.ok sc_piece_end (fun vs H Q E h => ?_) (fun cdv A outer s H vs Q E hr h => ?_)
  · obtain ⟨z, s, n, b, rfl, _⟩ := h
    rfl
  · obtain ⟨z, s, n, b, rfl, n0, hs, q⟩ := h
    refine ⟨_, (pss_cons (ps_if (pt_val (pv 3)) (pss_cons (ps_set (i := 4) sc_piece_end.nd rfl (Or.inl rfl) (pe_bm PySem.F.plainAttrs_str PySem.F.slot_str_rfind PySem.F.type_str_rfind mt_rfind4 (pv 0) (pa_cons pe_str (pa_cons (pv 1) (pa_cons (pe_op op_addU (pv 1) (pv 2)) pa_nil)))))
        (pss_one (ps_if (pt_cmpR op_ge (pv 4) pe_int (nomark _)) (pss_one (ps_ret (pe_op op_addU (pv 4) pe_int))) pss_nil))) pss_nil)
        (pss_one (ps_ret (pe_op op_addU (pv 1) (pv 2))))), ?_⟩
    cases b with
    | false =>
      walk_at "rd"
      have e : gr (spc z) n false s = s + n := gr_of n0 (.inl ⟨rfl, rfl⟩)
      rw [e] at q
      exact q
    | true =>
      walk_at "rd"
      refine r_tyS ?_
      walk_at "rd"
      rw [blank]
      refine ⟨z, _, (s : Nat), ((s + n : Nat) : Int), rfl, rfl, ?_⟩
      rcases rfind1 z 32 s (s + n) hs with ⟨h1, h2⟩ | ⟨j, h1, h2, h3, h4, h5⟩
      · rw [h1]
        walk_at "rd"
        have e : gr (spc z) n true s = s + n := gr_of n0 (.inr ⟨rfl, .inr ⟨fun i g1 g2 => decide_eq_false (h2 i g1 g2), rfl⟩⟩)
        rw [e] at q
        exact q
      · rw [h1]
        walk_at "rd"
        have e : gr (spc z) n true s = j + 1 := gr_of n0 (.inr ⟨rfl, .inl ⟨j, h2, h3, decide_eq_true h4, fun i g1 g2 => decide_eq_false (h5 i g1 g2), rfl⟩⟩)
        rw [e] at q
        exact q
theorem ok_laid (T : Txt K mg) : FnOk P w K mg base CX0 2 T.a_laid T.d_laid ["row", "width", "wordwise"] (spCut K) := by
  refine T.F_laid.ok sc_laid (fun vs H Q E h => ?_) (fun cdv A outer s H vs Q E hr h => ?_)
  · obtain ⟨z, n, b, rfl, _⟩ := h
    rfl
  · obtain ⟨z, n, b, rfl, hz, n0, n1, q⟩ := h
    refine ⟨_, (pss_cons (ps_set (i := 3) sc_laid.nd rfl (Or.inl rfl) (pe_lst pa_nil))
        (pss_cons (ps_set (i := 4) sc_laid.nd rfl (Or.inl rfl) pe_int)
        (pss_cons (ps_while PassesOwn.never (pt_cmpR op_gt (pe_op op_sub (pe_callB call_lenU (by rfl) T.n_len (by decide +kernel) (pa_cons (pv 0) pa_nil)) (pv 4)) (pv 1) (nomark _)) (pss_cons (ps_set (i := 5) sc_laid.nd rfl (Or.inl rfl) (pe_call (ok_piece_end T) hr (by rfl) T.g_piece_end T.F_piece_end.kp T.b_piece_end .nil pass0 (pa_cons (pv 0) (pa_cons (pv 4) (pa_cons (pv 1) (pa_cons (pv 2) pa_nil))))))
        (pss_cons (ps_expr (pe_bm PySem.F.plainAttrs_list PySem.F.slot_list_append PySem.F.type_list_append mt_append (pv 3) (pa_cons (pe_tup (pa_cons (pv 4) (pa_cons (pv 5) pa_nil))) pa_nil)))
        (pss_one (ps_set (i := 4) sc_laid.nd rfl (Or.inl rfl) (pv 5))))))
        (pss_cons (ps_expr (pe_bm PySem.F.plainAttrs_list PySem.F.slot_list_append PySem.F.type_list_append mt_append (pv 3) (pa_cons (pe_tup (pa_cons (pv 4) (pa_cons (pe_callB call_lenU (by rfl) T.n_len (by decide +kernel) (pa_cons (pv 0) pa_nil)) pa_nil))) pa_nil)))
        (pss_one (ps_ret (pe_callTy call_tupU (by rfl) T.n_tuple (by decide +kernel) (pa_cons (pv 3) pa_nil)))))))), ?_⟩
    have zl : z.length ≤ sizeLine := by rw [sizeLine_eq]; omega
    obtain ⟨N, hN⟩ : ∃ N, N = z.length := ⟨_, rfl⟩
    walk_at "rd"
    refine r_small nsz fun L hL => ?_
    walk_at "rd"
    refine ⟨fun m σ H' => ∃ (t : Nat) (y5 : Option V) (ps : List V), σ = [some (.str z), some (.int (n : Nat)), some (.bl b), some (.ref L), some (.int (it (spc z) n b t : Nat)), y5] ∧ Ex H H' ∧ H' L = some (.lst ps) ∧ SgL K H' ps ((List.range t).map fun k => (it (spc z) n b k, it (spc z) n b (k + 1))) ∧ (∀ i, i < t → it (spc z) n b i + n < N) ∧ m = N - it (spc z) n b t, ⟨_, 0, none, [], rfl, Same.new (Same.refl H) hL, upd_same, .nil, fun i h => absurd h (by omega), rfl⟩, fun m σ H' hP => ?_⟩
    obtain ⟨t, y5, ps, rfl, e, gL, hps, hlt, rfl⟩ := hP
    have pl : ps.length = t := by rw [hps.len, List.length_map, List.length_range]
    have tN := it_ge (sp := spc z) (bw := b) n0 t
    have hN' := it_le n0 hlt
    walk_at "rd"
    refine r_lenS zl ?_
    rw [← hN]
    walk_at "rd"
    refine r_ite (fun h1 => ?_) (fun h1 => ?_)
    · have hno : it (spc z) n b t + n < N := by omega
      obtain ⟨g1, hg1⟩ : ∃ g1, g1 = gr (spc z) n b (it (spc z) n b t) := ⟨_, rfl⟩
      have g1t : g1 = it (spc z) n b (t + 1) := hg1
      have glt := gr_lt (sp := spc z) (bw := b) n0 (it (spc z) n b t)
      refine ⟨fun σ' H2 => ∃ m', m' < N - it (spc z) n b t ∧ ∃ (t : Nat) (y5 : Option V) (ps : List V), σ' = [some (.str z), some (.int (n : Nat)), some (.bl b), some (.ref L), some (.int (it (spc z) n b t : Nat)), y5] ∧ Ex H H2 ∧ H2 L = some (.lst ps) ∧ SgL K H2 ps ((List.range t).map fun k => (it (spc z) n b k, it (spc z) n b (k + 1))) ∧ (∀ i, i < t → it (spc z) n b i + n < N) ∧ m' = N - it (spc z) n b t, fun σ' H2 h => h, ?_⟩
      walk_at "rd"
      refine ⟨z, _, n, b, rfl, n0, by omega, ?_⟩
      rw [← hg1]
      walk_at "rd"
      refine r_tyL (sqL gL) ?_
      walk_at "rd"
      refine r_small nsz fun p hp => ?_
      obtain ⟨H5, k5, e5, h5⟩ := new1 hp (.tup [V.int (it (spc z) n b t : Nat), V.int (g1 : Nat)])
      rw [← k5]
      have hS : SgV K H5 (.ref p) (it (spc z) n b t, g1) := ⟨p, rfl, .inl h5⟩
      walk_at "rd"
      refine r_app (e5 _ _ gL) (Nat.lt_of_le_of_lt (show ps.length ≤ 1000 by omega) (by decide)) ?_
      walk_at "rd"
      have eC : Tk H5 (upd H5 L (.lst (ps ++ [.ref p]))) := .put (e5 _ _ gL)
      refine ⟨N - g1, by omega, t + 1, _, _, by rw [← g1t]; rfl, Same.mut (e.trans e5) hL, upd_same, ?_, fun i hi => ?_, by rw [← g1t]⟩
      · rw [List.range_succ, List.map_append]
        have : SgL K (upd H5 L (.lst (ps ++ [.ref p]))) (ps ++ [.ref p]) ((List.range t).map (fun k => (it (spc z) n b k, it (spc z) n b (k + 1))) ++ [(it (spc z) n b t, g1)]) := (p2_imm eC (p2_imm (.ex e5) hps)).snoc (imm eC hS)
        rw [g1t] at this
        exact this
      · rcases Nat.lt_or_ge i t with g | g
        · exact hlt i g
        · rw [show i = t by omega]
          exact hno
    · have hT : IsT (spc z) n b N t := ⟨hlt, by omega⟩
      walk_at "rd"
      refine r_tyL (sqL gL) ?_
      walk_at "rd"
      refine r_lenS zl ?_
      rw [← hN]
      walk_at "rd"
      refine r_small nsz fun p hp => ?_
      obtain ⟨H5, k5, e5, h5⟩ := new1 hp (.tup [V.int (it (spc z) n b t : Nat), V.int (N : Nat)])
      rw [← k5]
      have hS : SgV K H5 (.ref p) (it (spc z) n b t, N) := ⟨p, rfl, .inl h5⟩
      walk_at "rd"
      refine r_app (e5 _ _ gL) (Nat.lt_of_le_of_lt (show ps.length ≤ 1000 by omega) (by decide)) ?_
      walk_at "rd"
      have eC : Tk H5 (upd H5 L (.lst (ps ++ [.ref p]))) := .put (e5 _ _ gL)
      have hfin : SgL K (upd H5 L (.lst (ps ++ [.ref p]))) (ps ++ [.ref p]) (pcl (spc z) n b N t) := by
        have ep : pcl (spc z) n b N t = (List.range t).map (fun k => (it (spc z) n b k, it (spc z) n b (k + 1))) ++ [(it (spc z) n b t, N)] := by
          unfold pcl
          rw [List.range_succ, List.map_append]
          congr 1
          · refine List.map_congr_left fun k hk => ?_
            rw [if_pos (List.mem_range.mp hk)]
          · show [(_, if t < t then _ else _)] = _
            rw [if_neg (Nat.lt_irrefl _)]
        rw [ep]
        exact (p2_imm eC (p2_imm (.ex e5) hps)).snoc (imm eC hS)
      refine r_tupLV upd_same hfin fun p6 H6 hp6 e6 hT' => ?_
      exact q _ t _ ((Same.mut (e.trans e5) hL).trans e6) (hN ▸ hT) (hN ▸ hT')
theorem pcl_len {sp : Nat → Bool} {n : Nat} {b : Bool} {N t : Nat} : (pcl sp n b N t).length = t + 1 := by
  unfold pcl
  rw [List.length_map, List.length_range]

end
end K63

namespace K63
open PySem PySem.Spec PyProof.Rows L2 Dk Q61
/-- one step of a reading -/
local macro_rules | `(tactic| walk_at "rd1") => `(tactic| first
  | ((with_reducible refine r_var (v := ?rv) ?rh ?_); (case rh => rfl))
  | with_reducible refine r_c ?_
  | with_reducible refine r_seq ?_
  | with_reducible refine r_asg ?_
  | with_reducible refine r_par ?_
  | with_reducible refine r_gname ?_
  | with_reducible refine r_op ?_
  | with_reducible refine r_forLo ?_
  | with_reducible refine r_forTo ?_
  | with_reducible refine r_forSo ?_
  | with_reducible refine r_forRo ?_
  | with_reducible refine r_forRvo ?_
  | with_reducible refine r_forZo ?_
  | with_reducible refine r_revS ?_
  | with_reducible refine r_lcRo ?_
  | with_reducible refine r_lcLo ?_
  | with_reducible refine r_yes ?_
  | with_reducible refine r_callK0 ?_
  | with_reducible refine r_break ?_
  | with_reducible refine r_continue ?_
  | with_reducible refine r_forR2o ?_
  | with_reducible refine r_forEo ?_
  | with_reducible refine r_forESo ?_
  | with_reducible refine r_xfo ?_
  | with_reducible refine r_noP ?_
  | with_reducible refine r_part ?_
  | with_reducible refine r_pI ?_
  | with_reducible refine r_gcons ?_
  | with_reducible refine r_gnil ?_
  | with_reducible refine r_mkO ?_
  | with_reducible refine r_un ?_
  | with_reducible refine r_addI ?_
  | with_reducible refine r_I0 ?_
  | with_reducible refine r_U ?_
  | with_reducible refine r_cons ?_
  | with_reducible refine r_nil ?_
  | with_reducible refine r_CB ?_
  | with_reducible refine r_call ?_
  | with_reducible refine r_callS ?_
  | with_reducible refine r_int ?_
  | with_reducible refine r_max ?_
  | with_reducible refine r_min ?_
  | with_reducible refine r_test ?_
  | with_reducible refine r_B ?_
  | with_reducible refine r_blv ?_
  | with_reducible refine r_and ?_
  | with_reducible refine r_or ?_
  | with_reducible refine r_not ?_
  | with_reducible refine r_andV ?_
  | with_reducible refine r_orV ?_
  | with_reducible refine r_notV ?_
  | with_reducible refine r_ifE ?_
  | with_reducible refine r_ifS ?_
  | with_reducible refine r_ret ?_
  | with_reducible refine r_retN ?_
  | with_reducible refine r_drop ?_
  | with_reducible refine r_next ?_
  | with_reducible refine r_sl ?_
  | with_reducible refine r_gsub ?_
  | with_reducible refine r_bm ?_
  | with_reducible refine r_bm0 ?_
  | with_reducible refine r_tup ?_
  | with_reducible refine r_lst ?_
  | with_reducible refine r_isN ?_
  | with_reducible refine r_notN ?_
  | with_reducible refine r_chain ?_
  | with_reducible refine r_callK ?_
  | with_reducible refine r_isB ?_
  | with_reducible refine r_lcEio ?_
  | with_reducible refine r_forEi ?_
  | with_reducible refine r_lcTo ?_
  | with_reducible refine r_lcSo ?_
  | with_reducible refine r_m1 ?_
  | with_reducible refine r_dget ?_
  | with_reducible refine r_din ?_
  | with_reducible refine r_dnotin ?_
  | with_reducible refine Tc.r_inC ?_
  | with_reducible refine Tc.r_getC ?_
  | with_reducible refine r_starC ?_
  | with_reducible refine r_callKS ?_
  | with_reducible refine Dk.r_fld ?_
  | with_reducible refine Dk.r_sfld ?_
  | with_reducible refine Dk.r_meth ?_
  | with_reducible refine Dk.r_methK ?_
  | with_reducible refine Dk.r_methT ?_
  | with_reducible refine Dk.r_makeK ?_
  | with_reducible refine r_itt ?_
  | with_reducible refine r_iff ?_
  | with_reducible refine r_ittN ?_
  | with_reducible refine r_iffN ?_
  | ((with_reducible refine r_ittD ?rh ?_); (case rh => rfl))
  | ((with_reducible refine r_iffD ?rh ?_); (case rh => rfl))
  | ((with_reducible refine r_modP ?rh ?_); (case rh => decide))
  | ((with_reducible refine r_eq ?rh ?_); (case rh => rfl))
  | ((with_reducible refine r_eqP ?rh ?_); (case rh => rfl))
  | ((with_reducible refine r_ne ?rh ?_); (case rh => rfl)))
local macro_rules | `(tactic| walk_at "rd") => `(tactic| repeat walk_at "rd1")
local macro_rules | `(tactic| walk_at "isi") => `(tactic| first | refine r_isi (b := true) (by assumption) (by decide +kernel) ?_ | refine r_isi (b := false) (by assumption) (by decide +kernel) ?_)
local macro_rules | `(tactic| walk_at "rs1") => `(tactic| first
  | with_reducible refine r_seq ?_
  | with_reducible refine r_asg ?_
  | with_reducible refine r_gname ?_
  | with_reducible refine r_ret ?_)
local macro_rules | `(tactic| walk_at "rs") => `(tactic| repeat walk_at "rs1")

theorem pool_tk {p d : Addr} {H H' : Hp} (s : (pool p d).B H) (D : Drw (pool p d) H H') : Tk H H' := fun q xs e => D.hh q _ (fun a => by
  obtain ⟨_, k, z, ns, h1, h2, _⟩ := s
  rcases a with rfl | rfl
  · rw [h1] at e; cases e
  · rw [h2] at e; cases e) e
def tbv (ns : List Nat) : List V := ns.map fun n => V.int (n : Nat)
theorem p2_tbv {H : Hp} : ∀ ns : List Nat, P2 (IntV H) (tbv ns) ns
  | [] => .nil
  | n :: r => .cons rfl (p2_tbv r)
theorem p2_ints {H : Hp} {xs : List V} {ns : List Nat} (h : P2 (IntV H) xs ns) : xs = (ns.map Int.ofNat).map V.int := by
  induction h with
  | nil => rfl
  | cons h _ ih => rw [ih, show _ = V.int _ from h]; rfl
theorem mem_ofNat {k : Nat} {ns : List Nat} : (((k : Nat) : Int) ∈ ns.map Int.ofNat) ↔ k ∈ ns := by
  rw [List.mem_map]
  constructor
  · rintro ⟨a, h, e⟩
    have : a = k := Int.ofNat.inj e
    rw [← this]; exact h
  · exact fun h => ⟨k, h, rfl⟩
theorem p2_strs {H : Hp} {xs : List V} {ls : List Str} (h : P2 (StrV H) xs ls) : xs = ls.map V.str := by
  induction h with
  | nil => rfl
  | cons h _ ih => rw [ih, show _ = V.str _ from h]; rfl
theorem p2_str {H : Hp} : ∀ ls : List Str, P2 (StrV H) (ls.map V.str) ls
  | [] => .nil
  | n :: r => .cons rfl (p2_str r)
theorem len_cut {z : Str} {k : Nat} : (cutS z none (some (k : Int))).length ≤ k := by
  rw [← cs_len, show cutS z none (some (k : Int)) = cutS z (some ((0 : Nat) : Int)) (some (k : Int)) from rfl, cs_cut, List.length_take]
  omega
/-- the rows met, one by one -/
def mt (kn : List Str) (ls : List Str) : Nat → List Str × List Nat
  | 0 => (kn, [])
  | i + 1 => match ls[i]? with
    | some z => if z ∈ (mt kn ls i).1 then mt kn ls i else ((mt kn ls i).1 ++ [z], (mt kn ls i).2 ++ [i])
    | none => mt kn ls i
theorem mt_in {kn ls : List Str} {i : Nat} {z : Str} (h : ls[i]? = some z) (m : z ∈ (mt kn ls i).1) : mt kn ls (i + 1) = mt kn ls i := by
  rw [mt, h]; exact if_pos m
theorem mt_new {kn ls : List Str} {i : Nat} {z : Str} (h : ls[i]? = some z) (m : z ∉ (mt kn ls i).1) : mt kn ls (i + 1) = ((mt kn ls i).1 ++ [z], (mt kn ls i).2 ++ [i]) := by
  rw [mt, h]; exact if_neg m
theorem mt_len {kn ls : List Str} : ∀ i, (mt kn ls i).1.length ≤ kn.length + i ∧ (mt kn ls i).2.length ≤ i
  | 0 => ⟨by simp [mt], by simp [mt]⟩
  | i + 1 => by
    have h := mt_len (kn := kn) (ls := ls) i
    cases e : ls[i]? with
    | none => rw [mt, e]; dsimp only; omega
    | some z =>
      by_cases m : z ∈ (mt kn ls i).1
      · rw [mt_in e m]; omega
      · rw [mt_new e m]; simp only [List.length_append, List.length_singleton]; omega
end K63

namespace K63
open PySem PySem.Spec PyProof.Rows L2 Dk Q61
/-- one step of a reading -/
local macro_rules | `(tactic| walk_at "rd1") => `(tactic| first
  | ((with_reducible refine r_var (v := ?rv) ?rh ?_); (case rh => rfl))
  | with_reducible refine r_c ?_
  | with_reducible refine r_seq ?_
  | with_reducible refine r_asg ?_
  | with_reducible refine r_par ?_
  | with_reducible refine r_gname ?_
  | with_reducible refine r_op ?_
  | with_reducible refine r_forLo ?_
  | with_reducible refine r_forTo ?_
  | with_reducible refine r_forSo ?_
  | with_reducible refine r_forRo ?_
  | with_reducible refine r_forRvo ?_
  | with_reducible refine r_forZo ?_
  | with_reducible refine r_revS ?_
  | with_reducible refine r_lcRo ?_
  | with_reducible refine r_lcLo ?_
  | with_reducible refine r_yes ?_
  | with_reducible refine r_callK0 ?_
  | with_reducible refine r_break ?_
  | with_reducible refine r_continue ?_
  | with_reducible refine r_forR2o ?_
  | with_reducible refine r_forEo ?_
  | with_reducible refine r_forESo ?_
  | with_reducible refine r_xfo ?_
  | with_reducible refine r_noP ?_
  | with_reducible refine r_part ?_
  | with_reducible refine r_pI ?_
  | with_reducible refine r_gcons ?_
  | with_reducible refine r_gnil ?_
  | with_reducible refine r_mkO ?_
  | with_reducible refine r_un ?_
  | with_reducible refine r_addI ?_
  | with_reducible refine r_I0 ?_
  | with_reducible refine r_U ?_
  | with_reducible refine r_cons ?_
  | with_reducible refine r_nil ?_
  | with_reducible refine r_CB ?_
  | with_reducible refine r_call ?_
  | with_reducible refine r_callS ?_
  | with_reducible refine r_int ?_
  | with_reducible refine r_max ?_
  | with_reducible refine r_min ?_
  | with_reducible refine r_test ?_
  | with_reducible refine r_B ?_
  | with_reducible refine r_blv ?_
  | with_reducible refine r_and ?_
  | with_reducible refine r_or ?_
  | with_reducible refine r_not ?_
  | with_reducible refine r_andV ?_
  | with_reducible refine r_orV ?_
  | with_reducible refine r_notV ?_
  | with_reducible refine r_ifE ?_
  | with_reducible refine r_ifS ?_
  | with_reducible refine r_ret ?_
  | with_reducible refine r_retN ?_
  | with_reducible refine r_drop ?_
  | with_reducible refine r_next ?_
  | with_reducible refine r_sl ?_
  | with_reducible refine r_gsub ?_
  | with_reducible refine r_bm ?_
  | with_reducible refine r_bm0 ?_
  | with_reducible refine r_tup ?_
  | with_reducible refine r_lst ?_
  | with_reducible refine r_isN ?_
  | with_reducible refine r_notN ?_
  | with_reducible refine r_chain ?_
  | with_reducible refine r_callK ?_
  | with_reducible refine r_isB ?_
  | with_reducible refine r_lcEio ?_
  | with_reducible refine r_forEi ?_
  | with_reducible refine r_lcTo ?_
  | with_reducible refine r_lcSo ?_
  | with_reducible refine r_m1 ?_
  | with_reducible refine r_dget ?_
  | with_reducible refine r_din ?_
  | with_reducible refine r_dnotin ?_
  | with_reducible refine Tc.r_inC ?_
  | with_reducible refine Tc.r_getC ?_
  | with_reducible refine r_starC ?_
  | with_reducible refine r_callKS ?_
  | with_reducible refine Dk.r_fld ?_
  | with_reducible refine Dk.r_sfld ?_
  | with_reducible refine Dk.r_meth ?_
  | with_reducible refine Dk.r_methK ?_
  | with_reducible refine Dk.r_methT ?_
  | with_reducible refine Dk.r_makeK ?_
  | with_reducible refine r_itt ?_
  | with_reducible refine r_iff ?_
  | with_reducible refine r_ittN ?_
  | with_reducible refine r_iffN ?_
  | ((with_reducible refine r_ittD ?rh ?_); (case rh => rfl))
  | ((with_reducible refine r_iffD ?rh ?_); (case rh => rfl))
  | ((with_reducible refine r_modP ?rh ?_); (case rh => decide))
  | ((with_reducible refine r_eq ?rh ?_); (case rh => rfl))
  | ((with_reducible refine r_eqP ?rh ?_); (case rh => rfl))
  | ((with_reducible refine r_ne ?rh ?_); (case rh => rfl)))
local macro_rules | `(tactic| walk_at "rd") => `(tactic| repeat walk_at "rd1")
local macro_rules | `(tactic| walk_at "isi") => `(tactic| first | refine r_isi (b := true) (by assumption) (by decide +kernel) ?_ | refine r_isi (b := false) (by assumption) (by decide +kernel) ?_)
local macro_rules | `(tactic| walk_at "rs1") => `(tactic| first
  | with_reducible refine r_seq ?_
  | with_reducible refine r_asg ?_
  | with_reducible refine r_gname ?_
  | with_reducible refine r_ret ?_)
local macro_rules | `(tactic| walk_at "rs") => `(tactic| repeat walk_at "rs1")

open Classical in
/-- how many pieces but one -/
noncomputable def tt (n : Nat) (b : Bool) (z : Str) : Nat := if h : ∃ t, IsT (spc z) n b z.length t then choose h else 0
theorem tt_of {n : Nat} {b : Bool} {z : Str} {t : Nat} (h : IsT (spc z) n b z.length t) : tt n b z = t := by
  unfold tt
  rw [dif_pos ⟨t, h⟩]
  exact (Classical.choose_spec (⟨t, h⟩ : ∃ t, IsT (spc z) n b z.length t)).one h
/-- the pieces of a row -/
noncomputable def pcs (n : Nat) (b : Bool) (z : Str) : List (Nat × Nat) := pcl (spc z) n b z.length (tt n b z)
def Pz (K : PySem.W.Frag) (n : Nat) (b : Bool) (H : Hp) (v : V) (z : Str) : Prop := TupV K (SgV K) H v (pcs n b z)
instance {K : PySem.W.Frag} {n : Nat} {b : Bool} : Imm (Pz K n b) := ⟨fun t r => imm (R := TupV K (SgV K)) t r⟩
/-- there is a number of pieces -/
theorem isT_ex {sp : Nat → Bool} {n : Nat} {b : Bool} {N : Nat} (n0 : 1 ≤ n) : ∃ t, IsT sp n b N t := by
  have key : ∀ k, (∃ t, IsT sp n b N t) ∨ ∀ i, i < k → it sp n b i + n < N := by
    intro k
    induction k with
    | zero => exact .inr fun i h => absurd h (by omega)
    | succ k ih =>
      rcases ih with ih | ih
      · exact .inl ih
      · rcases Nat.lt_or_ge (it sp n b k + n) N with h | h
        · exact .inr fun i hi => by
            rcases Nat.lt_or_ge i k with g | g
            · exact ih i g
            · rw [show i = k by omega]; exact h
        · exact .inl ⟨k, ih, h⟩
  rcases key (N + 1) with h | h
  · exact h
  · have h1 := h N (by omega)
    have h2 := it_ge (sp := sp) (w := n) (bw := b) n0 N
    omega
theorem tt_is {n : Nat} {b : Bool} {z : Str} (n0 : 1 ≤ n) : IsT (spc z) n b z.length (tt n b z) := by
  obtain ⟨t, h⟩ := isT_ex (sp := spc z) (b := b) (N := z.length) n0
  rw [tt_of h]; exact h
theorem tt_le {n : Nat} {b : Bool} {z : Str} (n0 : 1 ≤ n) : tt n b z ≤ z.length := by
  have h := (tt_is (b := b) (z := z) n0).lt
  rcases Nat.lt_or_ge z.length (tt n b z) with g | g
  · have h1 := h z.length g
    have h2 := it_ge (sp := spc z) (w := n) (bw := b) n0 z.length
    omega
  · exact g
theorem pcs_len {n : Nat} {b : Bool} {z : Str} : (pcs n b z).length = tt n b z + 1 := pcl_len
/-- what the cutter answers -/
def spCutP (K : PySem.W.Frag) : Sp := fun vs H Q _ => ∃ (z : Str) (n : Nat) (b : Bool), vs = [.str z, .int (n : Nat), .bl b] ∧ z.length ≤ 700 ∧ 1 ≤ n ∧ n ≤ 100 ∧ ∀ v H', Ex H H' → Pz K n b H' v z → Q v H'
theorem cutP {K : PySem.W.Frag} {vs : List V} {H : Hp} {Q : VK} {E : XK} (h : spCutP K vs H Q E) : spCut K vs H Q E := by
  obtain ⟨z, n, b, rfl, h1, h2, h3, q⟩ := h
  exact ⟨z, n, b, rfl, h1, h2, h3, fun v t H' e hT hv => q v H' e (by unfold Pz pcs; rw [tt_of hT]; exact hv)⟩
end K63

namespace K63
open PySem PySem.Spec PyProof.Rows L2 Dk Q61
/-- one step of a reading -/
local macro_rules | `(tactic| walk_at "rd1") => `(tactic| first
  | ((with_reducible refine r_var (v := ?rv) ?rh ?_); (case rh => rfl))
  | with_reducible refine r_c ?_
  | with_reducible refine r_seq ?_
  | with_reducible refine r_asg ?_
  | with_reducible refine r_par ?_
  | with_reducible refine r_gname ?_
  | with_reducible refine r_op ?_
  | with_reducible refine r_forLo ?_
  | with_reducible refine r_forTo ?_
  | with_reducible refine r_forSo ?_
  | with_reducible refine r_forRo ?_
  | with_reducible refine r_forRvo ?_
  | with_reducible refine r_forZo ?_
  | with_reducible refine r_revS ?_
  | with_reducible refine r_lcRo ?_
  | with_reducible refine r_lcLo ?_
  | with_reducible refine r_yes ?_
  | with_reducible refine r_callK0 ?_
  | with_reducible refine r_break ?_
  | with_reducible refine r_continue ?_
  | with_reducible refine r_forR2o ?_
  | with_reducible refine r_forEo ?_
  | with_reducible refine r_forESo ?_
  | with_reducible refine r_xfo ?_
  | with_reducible refine r_noP ?_
  | with_reducible refine r_part ?_
  | with_reducible refine r_pI ?_
  | with_reducible refine r_gcons ?_
  | with_reducible refine r_gnil ?_
  | with_reducible refine r_mkO ?_
  | with_reducible refine r_un ?_
  | with_reducible refine r_addI ?_
  | with_reducible refine r_I0 ?_
  | with_reducible refine r_U ?_
  | with_reducible refine r_cons ?_
  | with_reducible refine r_nil ?_
  | with_reducible refine r_CB ?_
  | with_reducible refine r_call ?_
  | with_reducible refine r_callS ?_
  | with_reducible refine r_int ?_
  | with_reducible refine r_max ?_
  | with_reducible refine r_min ?_
  | with_reducible refine r_test ?_
  | with_reducible refine r_B ?_
  | with_reducible refine r_blv ?_
  | with_reducible refine r_and ?_
  | with_reducible refine r_or ?_
  | with_reducible refine r_not ?_
  | with_reducible refine r_andV ?_
  | with_reducible refine r_orV ?_
  | with_reducible refine r_notV ?_
  | with_reducible refine r_ifE ?_
  | with_reducible refine r_ifS ?_
  | with_reducible refine r_ret ?_
  | with_reducible refine r_retN ?_
  | with_reducible refine r_drop ?_
  | with_reducible refine r_next ?_
  | with_reducible refine r_sl ?_
  | with_reducible refine r_gsub ?_
  | with_reducible refine r_bm ?_
  | with_reducible refine r_bm0 ?_
  | with_reducible refine r_tup ?_
  | with_reducible refine r_lst ?_
  | with_reducible refine r_isN ?_
  | with_reducible refine r_notN ?_
  | with_reducible refine r_chain ?_
  | with_reducible refine r_callK ?_
  | with_reducible refine r_isB ?_
  | with_reducible refine r_lcEio ?_
  | with_reducible refine r_forEi ?_
  | with_reducible refine r_lcTo ?_
  | with_reducible refine r_lcSo ?_
  | with_reducible refine r_m1 ?_
  | with_reducible refine r_dget ?_
  | with_reducible refine r_din ?_
  | with_reducible refine r_dnotin ?_
  | with_reducible refine Tc.r_inC ?_
  | with_reducible refine Tc.r_getC ?_
  | with_reducible refine r_starC ?_
  | with_reducible refine r_callKS ?_
  | with_reducible refine Dk.r_fld ?_
  | with_reducible refine Dk.r_sfld ?_
  | with_reducible refine Dk.r_meth ?_
  | with_reducible refine Dk.r_methK ?_
  | with_reducible refine Dk.r_methT ?_
  | with_reducible refine Dk.r_makeK ?_
  | with_reducible refine r_itt ?_
  | with_reducible refine r_iff ?_
  | with_reducible refine r_ittN ?_
  | with_reducible refine r_iffN ?_
  | ((with_reducible refine r_ittD ?rh ?_); (case rh => rfl))
  | ((with_reducible refine r_iffD ?rh ?_); (case rh => rfl))
  | ((with_reducible refine r_modP ?rh ?_); (case rh => decide))
  | ((with_reducible refine r_eq ?rh ?_); (case rh => rfl))
  | ((with_reducible refine r_eqP ?rh ?_); (case rh => rfl))
  | ((with_reducible refine r_ne ?rh ?_); (case rh => rfl)))
local macro_rules | `(tactic| walk_at "rd") => `(tactic| repeat walk_at "rd1")
local macro_rules | `(tactic| walk_at "isi") => `(tactic| first | refine r_isi (b := true) (by assumption) (by decide +kernel) ?_ | refine r_isi (b := false) (by assumption) (by decide +kernel) ?_)
local macro_rules | `(tactic| walk_at "rs1") => `(tactic| first
  | with_reducible refine r_seq ?_
  | with_reducible refine r_asg ?_
  | with_reducible refine r_gname ?_
  | with_reducible refine r_ret ?_)
local macro_rules | `(tactic| walk_at "rs") => `(tactic| repeat walk_at "rs1")

/-! ### the class: its state -/
def fsL (n : Nat) (b : Bool) (dk ln : Addr) : List (Str × V) := [("width", .int (n : Nat)), ("wordwise", .bl b), ("known", .ref dk), ("lines", .ref ln)]
/-- the dict of the known rows -/
def Kv (K : PySem.W.Frag) (n : Nat) (b : Bool) (H : Hp) (kvs : List (Key × V)) (kn : List Str) : Prop := kvs.map (·.1) = kn.map Sum.inr ∧ ∀ z v, ((Sum.inr z : Key), v) ∈ kvs → Pz K n b H v z
structure Lay (K : PySem.W.Frag) (H : Hp) (C L dk ln : Addr) (n : Nat) (b : Bool) (kn ls : List Str) : Prop where
  o : ∃ dx, H L = some (.ins C dx (fsL n b dk ln))
  k : ∃ kvs, H dk = some (.dK kvs) ∧ Kv K n b H kvs kn
  l : ∃ lv, H ln = some (.lst lv) ∧ P2 (Pz K n b H) lv ls
section
variable {K : PySem.W.Frag} {n : Nat} {b : Bool} {H H' : Hp} {kvs : List (Key × V)} {kn ls : List Str} {z : Str} {v : V} {C L dk ln : Addr}
theorem Kv.tk (t : Tk H H') (h : Kv K n b H kvs kn) : Kv K n b H' kvs kn := ⟨h.1, fun z v m => imm t (h.2 z v m)⟩
theorem Kv.none (h : Kv K n b H kvs kn) (hz : z ∉ kn) : valV kvs (Sum.inr z : Key) = .none := by
  unfold valV
  rw [Option.map_eq_none_iff, List.find?_eq_none]
  intro kv hkv e
  have e := of_decide_eq_true e
  have m : kv.1 ∈ kvs.map (·.1) := List.mem_map.mpr ⟨kv, hkv, rfl⟩
  rw [h.1, e] at m
  obtain ⟨y, hy, ey⟩ := List.mem_map.mp m
  exact hz (Sum.inr.inj ey ▸ hy)
theorem Kv.some (h : Kv K n b H kvs kn) (hz : z ∈ kn) : ∃ v, valV kvs (Sum.inr z : Key) = .some v ∧ Pz K n b H v z := by
  have m : (Sum.inr z : Key) ∈ kvs.map (·.1) := by rw [h.1]; exact List.mem_map.mpr ⟨z, hz, rfl⟩
  obtain ⟨kv, hkv, e⟩ := List.mem_map.mp m
  cases hf : kvs.find? fun kv => decide (kv.1 = (Sum.inr z : Key)) with
  | none => exact absurd (decide_eq_true e) (List.find?_eq_none.mp hf kv hkv)
  | some x =>
    have e1 : x.1 = Sum.inr z := of_decide_eq_true (List.find?_some (p := fun kv : Key × V => decide (kv.1 = Sum.inr z)) hf)
    have m1 := List.mem_of_find?_eq_some hf
    refine ⟨x.2, by unfold valV; rw [hf]; rfl, h.2 z x.2 ?_⟩
    rw [← e1]
    exact m1
theorem Kv.put (h : Kv K n b H kvs kn) (hz : z ∉ kn) (hv : Pz K n b H v z) : putK kvs (Sum.inr z : Key) v = kvs ++ [(Sum.inr z, v)] ∧ Kv K n b H (kvs ++ [(Sum.inr z, v)]) (kn ++ [z]) := by
  refine ⟨?_, by rw [List.map_append, List.map_append, h.1]; rfl, fun y u m => ?_⟩
  · unfold putK
    rw [if_neg]
    intro e
    obtain ⟨kv, hkv, e⟩ := List.any_eq_true.mp e
    have e := of_decide_eq_true e
    have m : kv.1 ∈ kvs.map (·.1) := List.mem_map.mpr ⟨kv, hkv, rfl⟩
    rw [h.1, e] at m
    obtain ⟨y, hy, ey⟩ := List.mem_map.mp m
    exact hz (Sum.inr.inj ey ▸ hy)
  · rcases List.mem_append.mp m with m | m
    · exact h.2 y u m
    · obtain ⟨e1, e2⟩ := Prod.mk.inj (List.mem_singleton.mp m)
      rw [Sum.inr.inj e1, e2]; exact hv
theorem Kv.len (h : Kv K n b H kvs kn) : kvs.length = kn.length := by
  have := congrArg List.length h.1
  rwa [List.length_map, List.length_map] at this
theorem Lay.ex (e : Ex H H') (x : Lay K H C L dk ln n b kn ls) : Lay K H' C L dk ln n b kn ls := by
  obtain ⟨⟨dx, h1⟩, ⟨kvs, h2, h3⟩, lv, h4, h5⟩ := x
  exact ⟨⟨dx, e _ _ h1⟩, ⟨kvs, e _ _ h2, h3.tk (.ex e)⟩, lv, e _ _ h4, p2_imm (.ex e) h5⟩
/-- other objects change -/
theorem Lay.off (t : Tk H H') (h1 : H' L = H L) (h2 : H' dk = H dk) (h3 : H' ln = H ln) (x : Lay K H C L dk ln n b kn ls) : Lay K H' C L dk ln n b kn ls := by
  obtain ⟨⟨dx, g1⟩, ⟨kvs, g2, g3⟩, lv, g4, g5⟩ := x
  exact ⟨⟨dx, h1.trans g1⟩, ⟨kvs, h2.trans g2, g3.tk t⟩, lv, h3.trans g4, p2_imm t g5⟩
end
theorem tk_dk {H : Hp} {p : Addr} {kv : List (Key × V)} {o : HO} (h : H p = some (.dK kv)) : Tk H (upd H p o) := fun q xs e => by
  rw [upd_ne (fun z => by rw [z, h] at e; cases e)]
  exact e
theorem tk_in {H : Hp} {p C dx : Addr} {fs : List (Str × V)} {o : HO} (h : H p = some (.ins C dx fs)) : Tk H (upd H p o) := fun q xs e => by
  rw [upd_ne (fun z => by rw [z, h] at e; cases e)]
  exact e
theorem fnAs {P : Program} {w : World} {K : PySem.W.Frag} {mg : Str → Option Value} {base : Heap} {CX : CXT} {k : Nat} {f : Addr} {fd : FuncData} {ps : List Str} {sp sp' : Sp} (F : FnOk P w K mg base CX k f fd ps sp) (h : ∀ vs H Q E, sp' vs H Q E → sp vs H Q E) : FnOk P w K mg base CX k f fd ps sp' :=
  ⟨fun vs H Q E x => F.len vs H Q E (h _ _ _ _ x), fun A outer s H args us vs Q E a b c d e => F.run A outer s H args us vs Q E a b c d (h _ _ _ _ e)⟩
theorem noF {m : Str} {n : Nat} {b : Bool} {dk ln : Addr} (h : decide (m = "width") = false) (h2 : decide (m = "wordwise") = false) (h3 : decide (m = "known") = false) (h4 : decide (m = "lines") = false) : (fsL n b dk ln).lookup m = none := by
  unfold fsL
  have hb : ∀ s : Str, decide (m = s) = false → (m == s) = false := fun s h => by
    rw [beq_eq_false_iff_ne]; exact of_decide_eq_false h
  rw [List.lookup_cons, hb _ h, List.lookup_cons, hb _ h2, List.lookup_cons, hb _ h3, List.lookup_cons, hb _ h4]
  rfl
theorem atW {n : Nat} {b : Bool} {dk ln : Addr} : (fsL n b dk ln).lookup ("width" : Str) = some (.int (n : Nat)) := rfl
theorem atB {n : Nat} {b : Bool} {dk ln : Addr} : (fsL n b dk ln).lookup ("wordwise" : Str) = some (.bl b) := rfl
theorem atK {n : Nat} {b : Bool} {dk ln : Addr} : (fsL n b dk ln).lookup ("known" : Str) = some (.ref dk) := rfl
theorem atL {n : Nat} {b : Bool} {dk ln : Addr} : (fsL n b dk ln).lookup ("lines" : Str) = some (.ref ln) := rfl
theorem putL {n : Nat} {b : Bool} {dk ln l2 : Addr} : putF "lines" (.ref l2) (fsL n b dk ln) = fsL n b dk l2 := rfl
theorem mt_mono {kn ls : List Str} {y : Str} {i : Nat} (h : y ∈ (mt kn ls i).1) : y ∈ (mt kn ls (i + 1)).1 := by
  cases e : ls[i]? with
  | none => rw [mt, e]; exact h
  | some z =>
    by_cases m : z ∈ (mt kn ls i).1
    · rw [mt_in e m]; exact h
    · rw [mt_new e m]; exact List.mem_append_left _ h
theorem mt_mem {kn ls : List Str} {z : Str} {i : Nat} : ∀ (k : Nat), ls[i]? = some z → i < k → z ∈ (mt kn ls k).1
  | 0, _, h => absurd h (by omega)
  | k + 1, hz, h => by
    rcases Nat.lt_or_ge i k with g | g
    · exact mt_mono (mt_mem k hz g)
    · have e : i = k := by omega
      subst e
      by_cases m : z ∈ (mt kn ls i).1
      · exact mt_mono m
      · rw [mt_new hz m]; exact List.mem_append_right _ (List.mem_singleton.mpr rfl)
/-- other addresses are kept -/
def Off (A : Addr → Prop) (H H' : Hp) : Prop := ∀ x o, ¬ A x → H x = some o → H' x = some o
def spInit (C : Addr) (K : PySem.W.Frag) : Sp := fun vs H Q _ => ∃ (x dx : Addr) (n : Nat) (b : Bool), vs = [.ref x, .int (n : Nat), .bl b] ∧ H x = some (.ins C dx []) ∧ ∀ dk ln H', Off (· = x) H H' → H dk = none → H ln = none → Lay K H' C x dk ln n b [] [] → Q .non H'
def spRef (C : Addr) (K : PySem.W.Frag) : Sp := fun vs H Q _ => ∃ (L dk ln : Addr) (n : Nat) (b : Bool) (kn ls rs : List Str) (v : V), vs = [.ref L, v] ∧ Lay K H C L dk ln n b kn ls ∧ TupV K StrV H v rs ∧ rs.length ≤ 400 ∧ (∀ z ∈ rs, z.length ≤ 700) ∧ kn.length ≤ 5000 ∧ 1 ≤ n ∧ n ≤ 100 ∧
  ∀ u l2 H', Off (fun x => x = L ∨ x = dk) H H' → H l2 = none → Lay K H' C L dk l2 n b (mt kn rs rs.length).1 rs → TupV K IntV H' u (mt kn rs rs.length).2 → Q u H'
def spBnd (C Cb : Addr) (K : PySem.W.Frag) : Sp := fun vs H Q E => ∃ (L dk ln : Addr) (n : Nat) (b : Bool) (kn ls : List Str) (i : Nat), vs = [.ref L, .int (i : Nat)] ∧ Lay K H C L dk ln n b kn ls ∧
  (∀ z, ls[i]? = some z → ∀ v, Pz K n b H v z → Q v H) ∧ (ls.length ≤ i → ∀ H' d, Ex H H' → H d = none → H' d = some (.xd [("at", .int (i : Nat))]) → E (.ref Cb) (some d) H')
section
variable {P : Program} {w : World} {K : PySem.W.Frag} {mg : Str → Option Value} {base : Heap}
theorem ok_Layout_init (T : Txt K mg) : FnOk P w K mg base CX0 1 T.a_Layout_init T.d_Layout_init ["self", "width", "wordwise"] (spInit T.c_Layout K) := by
  refine T.F_Layout_init.ok sc_Layout_init (fun vs H Q E h => ?_) (fun cdv A outer s H vs Q E hr h => ?_)
  · obtain ⟨x, dx, n, b, rfl, _⟩ := h
    rfl
  · obtain ⟨x, dx, n, b, rfl, hx, q⟩ := h
    refine ⟨_, (pss_cons (ps_fld (pv 0) (pv 1) rfl)
        (pss_cons (ps_fld (pv 0) (pv 2) rfl)
        (pss_cons (ps_fld (pv 0) pe_dnewK rfl)
        (pss_one (ps_fld (pv 0) (pe_lst pa_nil) rfl))))), ?_⟩
    walk_at "rd"
    refine r_sfldI hx T.k_Layout T.na_Layout_width (by simp) ?_
    walk_at "rd"
    refine r_sfldI upd_same T.k_Layout T.na_Layout_wordwise (by simp [putF]) ?_
    rw [upd_upd]
    obtain ⟨H1, k1⟩ : ∃ H1, H1 = upd H x (.ins T.c_Layout dx (putF "wordwise" (.bl b) (putF "width" (.int (n : Nat)) []))) := ⟨_, rfl⟩
    have g1 : H1 x = some (.ins T.c_Layout dx (putF "wordwise" (.bl b) (putF "width" (.int (n : Nat)) []))) := by rw [k1]; exact upd_same
    have o1 : Off (· = x) H H1 := fun y o ny e => by rw [k1, upd_ne ny]; exact e
    have f1 : ∀ y, H1 y = none → H y = none := fun y hy => by
      by_cases e : y = x
      · rw [e, g1] at hy; cases hy
      · rw [k1, upd_ne e] at hy; exact hy
    rw [← k1]
    walk_at "rd"
    refine fun dk hdk => ?_
    obtain ⟨H2, k2, e2, g2⟩ := new1 hdk (.dK [])
    rw [← k2]
    have nd : dk ≠ x := fun z => by rw [z, g1] at hdk; cases hdk
    walk_at "rd"
    refine r_sfldI (e2 _ _ g1) T.k_Layout T.na_Layout_known (by decide : 2 < 1000) ?_
    obtain ⟨H3, k3⟩ : ∃ H3, H3 = upd H2 x (.ins T.c_Layout dx (putF "known" (.ref dk) (putF "wordwise" (.bl b) (putF "width" (.int (n : Nat)) [])))) := ⟨_, rfl⟩
    rw [← k3]
    have g3 : H3 x = some (.ins T.c_Layout dx (putF "known" (.ref dk) (putF "wordwise" (.bl b) (putF "width" (.int (n : Nat)) [])))) := by rw [k3]; exact upd_same
    have g3d : H3 dk = some (.dK []) := by rw [k3, upd_ne nd]; exact g2
    have o3 : Off (· = x) H H3 := fun y o ny e => by rw [k3, upd_ne ny]; exact e2 _ _ (o1 y o ny e)
    walk_at "rd"
    refine r_small nsz fun l hl => ?_
    obtain ⟨H4, k4, e4, g4⟩ := new1 hl (.lst [])
    rw [← k4]
    have nl : l ≠ x := fun z => by rw [z, g3] at hl; cases hl
    walk_at "rd"
    refine r_sfldI (e4 _ _ g3) T.k_Layout T.na_Layout_lines (by decide : 3 < 1000) ?_
    walk_at "rd"
    refine q dk l _ (fun y o ny e => by rw [upd_ne ny]; exact e4 _ _ (o3 y o ny e)) (f1 _ hdk) ?_ ⟨⟨dx, upd_same⟩, ⟨[], by rw [upd_ne nd]; exact e4 _ _ g3d, rfl, fun _ _ m => nomatch m⟩, [], by rw [upd_ne nl]; exact g4, .nil⟩
    · cases e : H l with
      | none => rfl
      | some o =>
        rw [o3 l o nl e] at hl; cases hl
theorem ok_Layout_refresh (T : Txt K mg) : FnOk P w K mg base CX0 3 T.a_Layout_refresh T.d_Layout_refresh ["self", "rows"] (spRef T.c_Layout K) := by
  refine T.F_Layout_refresh.ok sc_Layout_refresh (fun vs H Q E h => ?_) (fun cdv A outer s H vs Q E hr h => ?_)
  · obtain ⟨L, dk, ln, n, b, kn, ls, rs, v, rfl, _⟩ := h
    rfl
  · obtain ⟨L, dk, ln, n, b, kn, ls, rs, v, rfl, ⟨⟨dx, hL⟩, ⟨kvs, hk, hkv⟩, lv, hl, hlv⟩, hv, rl, rz, kl, n0, n1, q⟩ := h
    obtain ⟨a, xs, rfl, ha, hx⟩ := hv
    obtain rfl := p2_strs hx
    have ok_laid : Txt K mg → FnOk P w K mg base CX0 _ T.a_laid T.d_laid ["row", "width", "wordwise"] (spCutP K) := fun _ => fnAs (ok_laid T) fun _ _ _ _ h => cutP h
    refine ⟨_, (pss_cons (ps_set (i := 2) sc_Layout_refresh.nd rfl (Or.inl rfl) (pe_lst pa_nil))
        (pss_cons (ps_for PassesOwn.never rfl (pi_enumT (by rfl) T.n_enumerate (pa_cons (pv 1) pa_nil)) (pg_tup rfl (pgs_cons (pg_name (i := 3) sc_Layout_refresh.nd rfl (Or.inl rfl)) (pgs_cons (pg_name (i := 4) sc_Layout_refresh.nd rfl (Or.inl rfl)) pgs_nil))) (pss_one (ps_if (pt_cmp (pc_dnotin (Nat.lt_of_le_of_lt (Nat.add_le_add_left (by decide : 1 ≤ 65) _) hr.units65) (pv 4) (pe_fld (pv 0) rfl))) (pss_cons (ps_asg (pe_callK (ok_laid T) hr (by rfl) T.g_laid T.F_laid.kp T.kb_laid_0 pass0 (pa_cons (pv 4) (pa_cons (pe_fld (pv 0) rfl) pa_nil)) (pk_cons (pe_fld (pv 0) rfl) pk_nil)) (pg_sub (pe_fld (pv 0) rfl) (pv 4) (set_dict (Nat.lt_of_le_of_lt (Nat.add_le_add_left (by decide : 1 ≤ 65) _) hr.units65))))
        (pss_one (ps_expr (pe_bm PySem.F.plainAttrs_list PySem.F.slot_list_append PySem.F.type_list_append mt_append (pv 2) (pa_cons (pv 3) pa_nil))))) pss_nil)))
        (pss_cons (ps_fld (pv 0) (pe_lc (own := [("row", 4)]) (g := gName 4) rfl sc_Layout_refresh.nd (pi_tup (pv 1)) (blkOk_by (N := N_Layout_refresh) (sc := defScope s_Layout_refresh) (by decide +kernel)) (fun _ _ _ _ _ => pg_name (i := 4) sc_Layout_refresh.nd rfl (Or.inl rfl)) (fun _ _ _ _ _ => pts_nil) (fun _ _ _ _ _ => (pe_dget (Nat.lt_of_le_of_lt (Nat.add_le_add_left (by decide : 1 ≤ 65) _) hr.units65) (Dk.pe_fldK (K := K) rfl (pv 0) rfl) (pv 4) (fun _ _ => rfl)))) rfl)
        (pss_one (ps_ret (pe_callTy call_tupU (by rfl) T.n_tuple (by decide +kernel) (pa_cons (pv 2) pa_nil))))))), ?_⟩
    walk_at "rd"
    refine r_small nsz fun f hf => ?_
    obtain ⟨H0, k0, e0, h0⟩ := new1 hf (.lst [])
    rw [← k0]
    have nfL : f ≠ L := fun z => by rw [z, hL] at hf; cases hf
    have nfk : f ≠ dk := fun z => by rw [z, hk] at hf; cases hf
    have nkL : dk ≠ L := fun z => by rw [z, hL] at hk; cases hk
    walk_at "rd"
    refine l_E (ha.up e0).sq (fun i σ H' => ∃ y3 y4 kv, σ = [some (.ref L), some (.ref a), some (.ref f), y3, y4] ∧ Off (· = dk) H H' ∧ Tk H H' ∧ H' dk = some (.dK kv) ∧ Kv K n b H' kv (mt kn rs i).1 ∧ H' f = some (.lst (tbv (mt kn rs i).2))) ⟨none, none, kvs, rfl, fun x o _ e => e0 _ _ e, .ex e0, e0 _ _ hk, hkv.tk (.ex e0), h0⟩ (fun i σ H' hP => ?_) (fun i x σ H' p hxi hP hp => ?_) (fun σ H' hP => ?_)
    · obtain ⟨_, _, _, _, _, t, _⟩ := hP
      exact (ha.tk t).sq
    · obtain ⟨y3, y4, kv, rfl, off, t, gk, hkv, gf⟩ := hP
      rw [List.getElem?_map] at hxi
      obtain ⟨z, hz, rfl⟩ := Option.map_eq_some_iff.mp hxi
      obtain ⟨H5, k5, e5, h5⟩ := new1 hp (.tup [.int (i : Nat), .str z])
      rw [← k5]
      walk_at "rd"
      refine r_gtup (sqT h5) rfl ?_
      walk_at "rd"
      have gL' := e5 _ _ (off _ _ nkL.symm hL)
      refine ⟨_, _, _, _, _, rfl, gL', T.k_Layout, T.na_Layout_known, atK, dk, valV kv (Sum.inr z), rfl, DGet.k (k := Sum.inr z) (e5 _ _ gk), ?_⟩
      have ml := mt_len (kn := kn) (ls := rs) i
      have il : i < rs.length := (List.getElem?_eq_some_iff.mp hz).1
      by_cases hin : z ∈ (mt kn rs i).1
      · obtain ⟨v0, hv0, _⟩ := hkv.some hin
        rw [hv0]
        walk_at "rd"
        exact ⟨_, _, kv, rfl, fun y o ny e => e5 _ _ (off y o ny e), t.trans (.ex e5), e5 _ _ gk, by rw [mt_in hz hin]; exact hkv.tk (.ex e5), by rw [mt_in hz hin]; exact e5 _ _ gf⟩
      · rw [hkv.none hin]
        walk_at "rd"
        refine ⟨_, _, _, _, _, rfl, gL', T.k_Layout, T.na_Layout_width, atW, ?_⟩
        walk_at "rd"
        refine ⟨_, _, _, _, _, rfl, gL', T.k_Layout, T.na_Layout_wordwise, atB, ?_⟩
        walk_at "rd"
        refine ⟨z, n, b, rfl, rz _ (List.mem_of_getElem? hz), n0, n1, fun pv' H6 e6 hpz => ?_⟩
        walk_at "rd"
        refine ⟨_, _, _, _, _, rfl, e6 _ _ gL', T.k_Layout, T.na_Layout_known, atK, ?_⟩
        walk_at "rd"
        have gk6 := e6 _ _ (e5 _ _ gk)
        have hkv6 : Kv K n b H6 kv (mt kn rs i).1 := hkv.tk (.ex (e5.trans e6))
        obtain ⟨ep, hkv7⟩ := hkv6.put hin hpz
        have kvl := hkv.len
        refine ⟨dk, _, rfl, DPut.k (k := Sum.inr z) gk6 (Nat.lt_of_le_of_lt (show kv.length ≤ 6000 by omega) (by decide)), ?_⟩
        rw [ep]
        have gf6 := e6 _ _ (e5 _ _ gf)
        have t6 : Tk H6 (upd H6 dk (.dK (kv ++ [(Sum.inr z, pv')]))) := tk_dk gk6
        walk_at "rd"
        refine r_tyL (sqL (by rw [upd_ne nfk]; exact gf6)) ?_
        walk_at "rd"
        refine r_app (by rw [upd_ne nfk]; exact gf6) (Nat.lt_of_le_of_lt (show _ ≤ 6000 by unfold tbv; rw [List.length_map]; omega) (by decide)) ?_
        walk_at "rd"
        have t7 : Tk (upd H6 dk (.dK (kv ++ [(Sum.inr z, pv')]))) (upd (upd H6 dk (.dK (kv ++ [(Sum.inr z, pv')]))) f (.lst (tbv (mt kn rs i).2 ++ [.int (i : Nat)]))) := .put (by rw [upd_ne nfk]; exact gf6)
        refine ⟨_, _, _, rfl, fun y o ny e => ?_, (((t.trans (.ex e5)).trans (.ex e6)).trans t6).trans t7, by rw [upd_ne nfk.symm]; exact upd_same, by rw [mt_new hz hin]; exact (hkv7.tk t6).tk t7, ?_⟩
        · rw [upd_ne (ne_of_none e hf), upd_ne ny]
          exact e6 _ _ (e5 _ _ (off y o ny e))
        · rw [upd_same, mt_new hz hin]; unfold tbv; rw [List.map_append]; rfl
    · obtain ⟨y3, y4, kv, rfl, off, t, gk, hkv, gf⟩ := hP
      rw [List.length_map] at hkv gf
      walk_at "rd"
      refine l_lcT (ha.tk t).sq (fun D i H2 => Ex H' H2 ∧ ∃ lv, H2 D = some (.lst lv) ∧ lv.length = i ∧ P2 (Pz K n b H2) lv (rs.take i)) (fun D hD => ⟨Same.new (Same.refl _) hD, [], upd_same, rfl, .nil⟩) (fun D i H2 hP => ?_) (fun D i x H2 hD hx hP => ?_) (fun D H2 hD hP => ?_)
      · exact (ha.tk (t.trans (.ex hP.1))).sq
      · obtain ⟨e2, lv2, g2, l2, p2⟩ := hP
        rw [List.getElem?_map] at hx
        obtain ⟨z, hz, rfl⟩ := Option.map_eq_some_iff.mp hx
        walk_at "rd"
        refine ⟨rfl, ?_⟩
        walk_at "rd"
        refine ⟨_, _, _, _, _, rfl, e2 _ _ (off _ _ nkL.symm hL), T.k_Layout, T.na_Layout_known, atK, ?_⟩
        have gk2 := e2 _ _ gk
        have mem : z ∈ (mt kn rs rs.length).1 := mt_mem _ hz (List.getElem?_eq_some_iff.mp hz).1
        obtain ⟨v0, hv0, hp0⟩ := (hkv.tk (.ex e2)).some mem
        walk_at "rd"
        refine ⟨dk, v0, rfl, by rw [← hv0]; exact DGet.k (k := Sum.inr z) gk2, ?_⟩
        have il : i < rs.length := (List.getElem?_eq_some_iff.mp hz).1
        have tD : Tk H2 (upd H2 D (.lst (lv2 ++ [v0]))) := .put g2
        refine ⟨lv2, g2, Nat.lt_of_le_of_lt (show lv2.length ≤ 6000 by omega) (by decide), Same.mut e2 hD, _, upd_same, by rw [List.length_append, l2]; rfl, ?_⟩
        rw [List.take_succ, hz]
        exact (p2_imm tD p2).snoc (imm tD hp0)
      · obtain ⟨e2, lv2, g2, l2, p2⟩ := hP
        rw [List.length_map, List.take_length] at p2
        walk_at "rd"
        refine r_sfldI (e2 _ _ (off _ _ nkL.symm hL)) T.k_Layout T.na_Layout_lines (by decide : 4 < 1000) ?_
        rw [putL]
        obtain ⟨H3, k3⟩ : ∃ H3, H3 = upd H2 L (.ins T.c_Layout dx (fsL n b dk D)) := ⟨_, rfl⟩
        rw [← k3]
        have t3 : Tk H2 H3 := by rw [k3]; exact tk_in (e2 _ _ (off _ _ nkL.symm hL))
        have nDL : D ≠ L := fun z => by rw [z, off _ _ nkL.symm hL] at hD; cases hD
        have gf3 : H3 f = some (.lst (tbv (mt kn rs rs.length).2)) := by rw [k3, upd_ne nfL]; exact e2 _ _ gf
        walk_at "rd"
        refine r_tupLV gf3 (p2_tbv _) fun p6 H6 hp6 e6 hT => ?_
        refine q _ D _ (fun y o ny e => ?_) ?_ ⟨⟨dx, e6 _ _ (by rw [k3]; exact upd_same)⟩, ⟨kv, e6 _ _ (by rw [k3, upd_ne nkL]; exact e2 _ _ gk), ((hkv.tk (.ex e2)).tk t3).tk (.ex e6)⟩, lv2, e6 _ _ (by rw [k3, upd_ne nDL]; exact g2), p2_imm (.ex e6) (p2_imm t3 p2)⟩ hT
        · refine e6 _ _ ?_
          rw [k3, upd_ne (fun z => ny (.inl z))]
          exact e2 _ _ (off y o (fun z => ny (.inr z)) e)
        · cases e : H D with
          | none => rfl
          | some o =>
            rw [off D o (fun z => by rw [z, gk] at hD; cases hD) e] at hD; cases hD
end
end K63

namespace Tl
/-! ### hops -/
inductive Hps (L R : Nat → Sg) : Sg → Sg → List (Sg × Sg) → Prop where
  | stop {x y : Sg} (h : x.1 = y.1) : Hps L R x y [(x, y)]
  | rgo {x y : Sg} {hs : List (Sg × Sg)} (h : y.1 < x.1) (t : Hps L R (R x.1) y hs) : Hps L R x y ((x, y) :: hs)
  | lgo {x y : Sg} {hs : List (Sg × Sg)} (h : x.1 < y.1) (t : Hps L R x (L y.1) hs) : Hps L R x y ((x, y) :: hs)
section
variable {L R : Nat → Sg} {x y : Sg} {hs hs' : List (Sg × Sg)}
theorem Hps.det (h : Hps L R x y hs) : ∀ {hs'}, Hps L R x y hs' → hs = hs' := by
  induction h with
  | stop h => intro hs' g; cases g with
    | stop _ => rfl
    | rgo k _ => omega
    | lgo k _ => omega
  | rgo h t ih => intro hs' g; cases g with
    | stop k => omega
    | rgo _ t' => rw [ih t']
    | lgo k _ => omega
  | lgo h t ih => intro hs' g; cases g with
    | stop k => omega
    | rgo k _ => omega
    | lgo _ t' => rw [ih t']
theorem E.iff_le {x y : Sg} (h : x.1 = y.1) : E L R x y ↔ x.2 ≤ y.2 := by
  unfold E
  rw [A.same_iff h]
  constructor
  · rintro (rfl | h) <;> omega
  · intro h2
    by_cases e : x.2 = y.2
    · exact .inl (Prod.ext h e)
    · exact .inr (by omega)
theorem E.iff_A {x y : Sg} (h : x.1 ≠ y.1) : E L R x y ↔ A L R x y := ⟨fun e => e.elim (fun z => absurd (congrArg Prod.fst z) h) id, .inr⟩
theorem Hps.last (h : Hps L R x y hs) : ∃ l r pre, hs = pre ++ [(l, r)] ∧ (E L R x y ↔ l.2 ≤ r.2) ∧ (A L R x y ↔ l.2 < r.2 ∨ (l.2 = r.2 ∧ 1 < hs.length)) := by
  induction h with
  | @stop x y h =>
    refine ⟨x, y, [], rfl, E.iff_le h, ?_⟩
    rw [A.same_iff h]
    simp
  | @rgo x y hs h t ih =>
    obtain ⟨l, r, pre, rfl, h1, h2⟩ := ih
    have e : E L R x y ↔ l.2 ≤ r.2 := by rw [E.iff_A (by omega), A.r_iff h]; exact h1
    refine ⟨l, r, (x, y) :: pre, rfl, e, ?_⟩
    rw [A.r_iff h, h1]
    simp
    omega
  | @lgo x y hs h t ih =>
    obtain ⟨l, r, pre, rfl, h1, h2⟩ := ih
    have e : E L R x y ↔ l.2 ≤ r.2 := by rw [E.iff_A (by omega), A.l_iff h]; exact h1
    refine ⟨l, r, (x, y) :: pre, rfl, e, ?_⟩
    rw [A.l_iff h, h1]
    simp
    omega
end
end Tl

namespace Tl
section
variable {L R : Nat → Sg} {sz : Nat → Nat} {n : Nat} {x y : Sg}
theorem ps_of_mark {j : Nat} (h : (marks sz n)[j]? = some x) : ps sz x = j := by
  have hj := (List.getElem?_eq_some_iff.mp h).1
  rw [marks_len] at hj
  obtain ⟨y, oy, e⟩ := sign_at hj
  have z := marks_at oy
  rw [e, h] at z
  rw [Option.some.inj z]
  exact e
theorem mark_first (o : Ok sz n x) : (marks sz n)[ps sz x]? = some x ∧ ∀ i, i < ps sz x → (marks sz n)[i]? ≠ some x :=
  ⟨marks_at o, fun i hi e => by
    have z := ps_of_mark e
    omega⟩
theorem off_le (h0 : sz 0 ≤ 2) (h : ∀ c, 0 < c → c < n → sz c ≤ 3) : ∀ m, m ≤ n → off sz m ≤ 3 * m
  | 0, _ => Nat.le_refl _
  | m + 1, hm => by
    have z := off_le h0 h m (by omega)
    show off sz m + sz m ≤ _
    by_cases e : m = 0
    · subst e
      omega
    · have := h m (by omega) (by omega)
      omega
theorem Ok.mono {m : Nat} (o : Ok sz n x) (h : n ≤ m) : Ok sz m x := ⟨Nat.lt_of_lt_of_le o.1 h, o.2⟩
theorem marks_one (h : sz 0 = 2) : marks sz 1 = [(0, 0), (0, 1)] := by
  show [] ++ rowOf sz 0 = _
  unfold rowOf
  rw [h]
  rfl
theorem bit_same {T : List Nat} {e : Nat × Nat} (h : put T e = T) (hl : e.1 < T.length) : ∀ c, c = e.2 ∨ Bit T e.2 c → Bit T e.1 c := fun c hc => by
  have z := (bit_put (T := T) hl (a := e.1) (b := c)).mpr (.inr ⟨rfl, hc⟩)
  rw [h] at z
  exact z
theorem put_eq {T : List Nat} {e : Nat × Nat} (hl : e.1 < T.length) (h : T.getD e.1 0 ||| 1 <<< e.2 ||| T.getD e.2 0 = T.getD e.1 0) : put T e = T := by
  unfold put
  rw [h]
  refine List.ext_getElem? fun i => ?_
  rw [List.getElem?_set]
  split
  · rename_i hi
    subst hi
    rw [List.getD_eq_getElem?_getD, List.getElem?_eq_getElem hl]
    rfl
  · rfl
theorem lap_snoc {S : List (Nat × Nat)} {T : List Nat} {e : Nat × Nat} : lap (S ++ [e]) T = put (lap S T) e := by
  unfold lap
  rw [List.foldl_append]
  rfl
/-! ### what is behind, what is ahead -/
def bh (T : List Nat) (j : Nat) : List Nat := (List.range T.length).filter fun k => (T.getD j 0).testBit k
def ah (T : List Nat) (j : Nat) : List Nat := (List.range T.length).filter fun k => (T.getD k 0).testBit j
def cl (T : List Nat) (j : Nat) : List Nat := (bh T j).filter fun k => ((bh T j).filter fun m => (T.getD m 0).testBit k).isEmpty
theorem mem_bh {T : List Nat} {j k : Nat} : k ∈ bh T j ↔ k < T.length ∧ Bit T j k := by
  unfold bh Bit
  rw [List.mem_filter, List.mem_range]
theorem mem_ah {T : List Nat} {j k : Nat} : k ∈ ah T j ↔ k < T.length ∧ Bit T k j := by
  unfold ah Bit
  rw [List.mem_filter, List.mem_range]
theorem cl_sub {T : List Nat} {j k : Nat} (h : k ∈ cl T j) : k ∈ bh T j := (List.mem_filter.mp h).1
/-- a row with a strict order has a least one -/
theorem least {lt : Nat → Nat → Prop} : ∀ (l : List Nat), l ≠ [] → (∀ a ∈ l, ∀ b ∈ l, ∀ c ∈ l, lt a b → lt b c → lt a c) → (∀ a ∈ l, ¬ lt a a) → ∃ k ∈ l, ∀ m ∈ l, ¬ lt m k := by
  intro l
  induction l with
  | nil => intro h; exact absurd rfl h
  | cons x r ih =>
    intro _ tr ir
    by_cases hr : r = []
    · subst hr
      refine ⟨x, List.mem_cons_self .., fun m hm => ?_⟩
      rw [List.mem_singleton.mp hm]
      exact ir x (List.mem_cons_self ..)
    · obtain ⟨k, hk, hm⟩ := ih hr (fun a ha b hb c hc => tr a (List.mem_cons_of_mem _ ha) b (List.mem_cons_of_mem _ hb) c (List.mem_cons_of_mem _ hc)) (fun a ha => ir a (List.mem_cons_of_mem _ ha))
      have hk' := List.mem_cons_of_mem x hk
      by_cases hx : lt x k
      · refine ⟨x, List.mem_cons_self .., fun m hm' hl => ?_⟩
        rcases List.mem_cons.mp hm' with rfl | hm2
        · exact ir _ (List.mem_cons_self ..) hl
        · exact hm m hm2 (tr m hm' x (List.mem_cons_self ..) k hk' hl hx)
      · refine ⟨k, hk', fun m hm' hl => ?_⟩
        rcases List.mem_cons.mp hm' with rfl | hm2
        · exact hx hl
        · exact hm m hm2 hl
theorem Tells.bit_lt {T : List Nat} (t : Tells L R sz n T) {a b : Nat} (ha : a < T.length) (hb : b < T.length) : ∃ x y, Ok sz n x ∧ Ok sz n y ∧ ps sz x = a ∧ ps sz y = b ∧ (Bit T a b ↔ A L R x y) := by
  rw [t.1] at ha hb
  obtain ⟨x, hx, rfl⟩ := sign_at ha
  obtain ⟨y, hy, rfl⟩ := sign_at hb
  exact ⟨x, y, hx, hy, rfl, rfl, t.2 x y hx hy⟩
theorem Tells.cl_ne {T : List Nat} (w : Wv L R sz n) (t : Tells L R sz n T) {j : Nat} (hj : j < T.length) (h : bh T j ≠ []) : cl T j ≠ [] := by
  obtain ⟨k, hk, hm⟩ := least (lt := fun a b => Bit T a b) (bh T j) h (fun a ha b hb c hc h1 h2 => by
    obtain ⟨x, y, ox, oy, ex, ey, i1⟩ := t.bit_lt (mem_bh.mp ha).1 (mem_bh.mp hb).1
    obtain ⟨y', z, oy', oz, ey', ez, i2⟩ := t.bit_lt (mem_bh.mp hb).1 (mem_bh.mp hc).1
    have e := ps_inj oy' oy (ey'.trans ey.symm)
    subst e
    have a3 := w.tr ox.1 oy.1 oz.1 (i1.mp h1) (i2.mp h2)
    have z := (t.2 x z ox oz).mpr a3
    rw [ex, ez] at z
    exact z) (fun a ha h1 => by
    obtain ⟨x, y, ox, oy, ex, ey, i1⟩ := t.bit_lt (mem_bh.mp ha).1 (mem_bh.mp ha).1
    have e := ps_inj ox oy (ex.trans ey.symm)
    subst e
    exact A.irr (i1.mp h1))
  refine List.ne_nil_of_mem (a := k) (List.mem_filter.mpr ⟨hk, ?_⟩)
  rw [List.isEmpty_iff, List.filter_eq_nil_iff]
  exact fun m hm' hb => hm m hm' hb
theorem Tells.bh0 {T : List Nat} (w : Wv L R sz n) (t : Tells L R sz n T) : bh T 0 ≠ [] ∧ 1 < T.length := by
  have n0 := w.n0
  have o0 : Ok sz n (0, 0) := ⟨n0, by show 0 < sz 0; rw [w.s0]; decide⟩
  have o1 : Ok sz n (0, 1) := ⟨n0, by show 1 < sz 0; rw [w.s0]; decide⟩
  have h1 := ps_lt o1
  have e1 : ps sz (0, 1) = 1 := rfl
  rw [e1, ← t.1] at h1
  have b : Bit T 0 1 := (t.2 (0, 0) (0, 1) o0 o1).mpr (.same rfl (by decide))
  exact ⟨List.ne_nil_of_mem (a := 1) (mem_bh.mpr ⟨h1, b⟩), h1⟩
end
end Tl
namespace Tl
theorem steps_le {L R : Nat → Sg} {sz : Nat → Nat} {n : Nat} (w : Wv L R sz n) : ∀ m, m < n → (steps L R sz m).length ≤ off sz (m + 1) + m
  | 0, _ => by
    show 1 ≤ (off sz 0 + sz 0) + 0
    rw [w.s0]
    show 1 ≤ 0 + 2 + 0
    omega
  | m + 1, h => by
    have z := steps_le w m (by omega)
    have s := w.s1 (m + 1) (by omega) h
    show (steps L R sz m ++ stepsOf L R sz (m + 1)).length ≤ (off sz (m + 1) + sz (m + 1)) + (m + 1)
    rw [List.length_append]
    have e : (stepsOf L R sz (m + 1)).length = sz (m + 1) - 1 + 2 := by
      unfold stepsOf
      simp
    rw [e]
    omega
end Tl

namespace Tl
def upn {α : Type} (f : Nat → α) (n : Nat) (x : α) : Nat → α := fun k => if k = n then x else f k
theorem upd_at {α : Type} {f : Nat → α} {n : Nat} {x : α} : upn f n x n = x := if_pos rfl
theorem upn_ne {α : Type} {f : Nat → α} {n k : Nat} {x : α} (h : k < n) : upn f n x k = f k := if_neg (by omega)
section
variable {L R : Nat → Sg} {sz : Nat → Nat} {n s : Nat} {x y : Sg}
theorem Wv.congrUp (w : Wv L R sz n) {u v : Sg} (hu : u.1 < n) (hv : v.1 < n) (a : A L R u v) : A (upn L n x) (upn R n y) u v :=
  A.congr (n := n) (fun c _ h => (upn_ne h).symm) (fun c _ h => (upn_ne h).symm) (fun c h0 h => ⟨w.l c h0 h, w.r c h0 h⟩) a hu hv
theorem Wv.step (w : Wv L R sz n) (ox : Ok sz n x) (oy : Ok sz n y) (a : A L R x y) (s0 : 0 < s) : Wv (upn L n x) (upn R n y) (upn sz n s) (n + 1) := by
  have n0 := w.n0
  have cs : ∀ c, c < n + 1 → c < n ∨ c = n := fun c h => by omega
  refine { l := fun c h0 h => ?_, r := fun c h0 h => ?_, lr := fun c h0 h => ?_, n0 := by omega, s0 := ?_, s1 := fun c h0 h => ?_, lo := fun c h0 h => ?_, ro := fun c h0 h => ?_ }
  · rcases cs c h with h | rfl
    · rw [upn_ne h]; exact w.l c h0 h
    · rw [upd_at]; exact ox.1
  · rcases cs c h with h | rfl
    · rw [upn_ne h]; exact w.r c h0 h
    · rw [upd_at]; exact oy.1
  · rcases cs c h with h | rfl
    · rw [upn_ne h, upn_ne h]
      exact w.congrUp (Nat.lt_trans (w.l c h0 h) h) (Nat.lt_trans (w.r c h0 h) h) (w.lr c h0 h)
    · rw [upd_at, upd_at]
      exact w.congrUp ox.1 oy.1 a
  · rw [upn_ne n0]; exact w.s0
  · rcases cs c h with h | rfl
    · rw [upn_ne h]; exact w.s1 c h0 h
    · rw [upd_at]; exact s0
  · rcases cs c h with h | rfl
    · rw [upn_ne h, upn_ne (Nat.lt_trans (w.l c h0 h) h)]; exact w.lo c h0 h
    · rw [upd_at, upn_ne ox.1]; exact ox.2
  · rcases cs c h with h | rfl
    · rw [upn_ne h, upn_ne (Nat.lt_trans (w.r c h0 h) h)]; exact w.ro c h0 h
    · rw [upd_at, upn_ne oy.1]; exact oy.2
theorem Wv.one : Wv (fun _ => (0, 0)) (fun _ => (0, 1)) (fun _ => 2) 1 :=
  { l := fun c h0 h => by omega, r := fun c h0 h => by omega, lr := fun c h0 h => by omega, n0 := by omega, s0 := rfl, s1 := fun c h0 h => by omega, lo := fun c h0 h => by omega, ro := fun c h0 h => by omega }
end
end Tl

namespace Tl
section
variable {L R : Nat → Sg} {sz : Nat → Nat} {n s : Nat} {x y l r : Sg} {X Y : List Sg}
/-- a row in the order -/
def Srt (L R : Nat → Sg) (row : List Sg) : Prop := row.Pairwise (A L R)
theorem Srt.step (w : Wv L R sz n) (ok : ∀ u ∈ X ++ l :: r :: Y, Ok sz n u) (h : Srt L R (X ++ l :: r :: Y)) : Srt (upn L n l) (upn R n r) (X ++ l :: (n, 0) :: r :: Y) := by
  unfold Srt at *
  have up : ∀ {u v}, u ∈ X ++ l :: r :: Y → v ∈ X ++ l :: r :: Y → A L R u v → A (upn L n l) (upn R n r) u v := fun hu hv a => w.congrUp (ok _ hu).1 (ok _ hv).1 a
  rw [List.pairwise_append] at h ⊢
  obtain ⟨h1, h2, h3⟩ := h
  rw [List.pairwise_cons] at h2
  obtain ⟨h4, h5⟩ := h2
  rw [List.pairwise_cons] at h5
  obtain ⟨h6, h7⟩ := h5
  have mX : ∀ {u}, u ∈ X → u ∈ X ++ l :: r :: Y := fun h => List.mem_append_left _ h
  have mY : ∀ {u}, u ∈ Y → u ∈ X ++ l :: r :: Y := fun h => List.mem_append_right _ (List.mem_cons_of_mem _ (List.mem_cons_of_mem _ h))
  have ml : l ∈ X ++ l :: r :: Y := List.mem_append_right _ (List.mem_cons_self ..)
  have mr : r ∈ X ++ l :: r :: Y := List.mem_append_right _ (List.mem_cons_of_mem _ (List.mem_cons_self ..))
  have lo : ∀ {u}, u ∈ X ++ l :: r :: Y → E (upn L n l) (upn R n r) u l → A (upn L n l) (upn R n r) u (n, 0) := fun hu e => (A.l_iff (ok _ hu).1).mpr (by
    show E _ _ _ (upn L n l n)
    rw [upd_at]
    exact e)
  have hi : ∀ {u}, u ∈ X ++ l :: r :: Y → E (upn L n l) (upn R n r) r u → A (upn L n l) (upn R n r) (n, 0) u := fun hu e => (A.r_iff (ok _ hu).1).mpr (by
    show E _ _ (upn R n r n) _
    rw [upd_at]
    exact e)
  refine ⟨h1.imp_of_mem fun ha hb a => up (mX ha) (mX hb) a, ?_, fun a ha b hb => ?_⟩
  · rw [List.pairwise_cons, List.pairwise_cons, List.pairwise_cons]
    refine ⟨fun a ha => ?_, fun a ha => ?_, fun a ha => up mr (mY ha) (h6 a ha), h7.imp_of_mem fun ha hb a => up (mY ha) (mY hb) a⟩
    · rcases List.mem_cons.mp ha with rfl | ha
      · exact lo ml (.inl rfl)
      · rcases List.mem_cons.mp ha with rfl | ha
        · exact up ml mr (h4 _ (List.mem_cons_self ..))
        · exact up ml (mY ha) (h4 _ (List.mem_cons_of_mem _ ha))
    · rcases List.mem_cons.mp ha with rfl | ha
      · exact hi mr (.inl rfl)
      · exact hi (mY ha) (.inr (up mr (mY ha) (h6 a ha)))
  · rcases List.mem_cons.mp hb with rfl | hb
    · exact up (mX ha) ml (h3 a ha _ (List.mem_cons_self ..))
    · rcases List.mem_cons.mp hb with rfl | hb
      · exact lo (mX ha) (.inr (up (mX ha) ml (h3 a ha _ (List.mem_cons_self ..))))
      · rcases List.mem_cons.mp hb with rfl | hb
        · exact up (mX ha) mr (h3 a ha _ (List.mem_cons_of_mem _ (List.mem_cons_self ..)))
        · exact up (mX ha) (mY hb) (h3 a ha _ (List.mem_cons_of_mem _ (List.mem_cons_of_mem _ hb)))
theorem Srt.lt {row : List Sg} (h : Srt L R row) {i j : Nat} {x y : Sg} (hi : row[i]? = some x) (hj : row[j]? = some y) (hij : i < j) : A L R x y := by
  obtain ⟨h1, rfl⟩ := List.getElem?_eq_some_iff.mp hi
  obtain ⟨h2, rfl⟩ := List.getElem?_eq_some_iff.mp hj
  exact List.pairwise_iff_getElem.mp h i j h1 h2 hij
theorem Srt.iff {row : List Sg} (w : Wv L R sz n) (ok : ∀ u ∈ row, Ok sz n u) (h : Srt L R row) {i j : Nat} {x y : Sg} (hi : row[i]? = some x) (hj : row[j]? = some y) : (A L R x y ↔ i < j) ∧ (E L R x y ↔ i ≤ j) := by
  have ox := ok x (List.mem_of_getElem? hi)
  have oy := ok y (List.mem_of_getElem? hj)
  rcases Nat.lt_trichotomy i j with hij | rfl | hij
  · have a := h.lt hi hj hij
    exact ⟨⟨fun _ => hij, fun _ => a⟩, fun _ => by omega, fun _ => .inr a⟩
  · rw [hi] at hj
    obtain rfl := Option.some.inj hj
    exact ⟨⟨fun a => absurd a A.irr, fun z => by omega⟩, fun _ => by omega, fun _ => .inl rfl⟩
  · have a := h.lt hj hi hij
    have no : ¬ A L R x y := fun b => A.irr (w.tr ox.1 oy.1 ox.1 b a)
    refine ⟨⟨fun b => absurd b no, fun z => by omega⟩, fun e => ?_, fun z => by omega⟩
    rcases e with rfl | e
    · exact absurd a A.irr
    · exact absurd e no
end
end Tl

/-! births as plain data -/
namespace Wd
open PySem PySem.Spec PyProof.Rows L2 Dk Tl
structure Bi where
  who : Nat
  l : Sg
  r : Sg
  t : Str
def BiV (K : PySem.W.Frag) (H : Hp) (v : V) (b : Bi) : Prop := ∃ (q : Addr) (lv rv : V), v = .ref q ∧ Tu K H q [.int (b.who : Nat), lv, rv, .str b.t] ∧ SgV K H lv b.l ∧ SgV K H rv b.r
instance {K : PySem.W.Frag} : Imm (BiV K) := ⟨fun t h => by
  obtain ⟨q, lv, rv, h1, h2, h3, h4⟩ := h
  exact ⟨q, lv, rv, h1, h2.tk t, imm t h3, imm t h4⟩⟩
abbrev WdV (K : PySem.W.Frag) := TupV K (BiV K)
def lf (W : List Bi) (c : Nat) : Sg := match W[c]? with | some b => b.l | none => (0, 0)
def rf (W : List Bi) (c : Nat) : Sg := match W[c]? with | some b => b.r | none => (0, 0)
def sz (W : List Bi) (c : Nat) : Nat := if c = 0 then 2 else match W[c]? with | some b => b.t.length | none => 0
structure Gw (W : List Bi) : Prop where
  wv : Wv (lf W) (rf W) (sz W) W.length
  small : W.length ≤ 210
  tot : off (sz W) W.length ≤ 750
  tl : ∀ b ∈ W, b.t.length ≤ 12
  who : ∀ b ∈ W, b.who < 300
theorem off_upto {f : Nat → Nat} {m : Nat} : ∀ {n : Nat}, m ≤ n → off f m ≤ off f n
  | 0, h => by rw [Nat.le_zero.mp h]; exact Nat.le_refl _
  | n + 1, h => by
    rcases Nat.lt_or_ge m (n + 1) with z | z
    · have := off_upto (f := f) (m := m) (n := n) (by omega)
      show _ ≤ off f n + f n
      omega
    · rw [show m = n + 1 by omega]; exact Nat.le_refl _
abbrev OkW (W : List Bi) (x : Sg) : Prop := Ok (sz W) W.length x
theorem lf_at {W : List Bi} {c : Nat} {b : Bi} (h : W[c]? = some b) : lf W c = b.l := by unfold lf; rw [h]
theorem rf_at {W : List Bi} {c : Nat} {b : Bi} (h : W[c]? = some b) : rf W c = b.r := by unfold rf; rw [h]
theorem sz_at {W : List Bi} {c : Nat} {b : Bi} (h0 : 0 < c) (h : W[c]? = some b) : sz W c = b.t.length := by unfold sz; rw [if_neg (by omega), h]
theorem sz0 {W : List Bi} : sz W 0 = 2 := rfl
theorem OkW.at {W : List Bi} {x : Sg} (ok : OkW W x) : ∃ b, W[x.1]? = some b := ⟨_, List.getElem?_eq_getElem ok.1⟩
theorem Gw.sz12 {W : List Bi} (g : Gw W) {c : Nat} : sz W c ≤ 12 := by
  unfold sz
  split
  · decide
  · split
    · rename_i b h
      exact g.tl b (List.mem_of_getElem? h)
    · decide
section
variable {K : PySem.W.Frag} {H H' : Hp} {Q : VK} {v u : V} {W : List Bi} {b : Bi} {x y : Sg} {c : Nat}
theorem r_bi (h : WdV K H v W) (hc : W[c]? = some b) (q : ∀ u, BiV K H u b → Q u H) : rIx K v (.int (c : Nat)) H Q := r_ixTV h hc q
theorem r_biL (h : BiV K H v b) (q : ∀ u, SgV K H u b.l → Q u H) : rIx K v (.int 1) H Q := by
  obtain ⟨p, lv, rv, rfl, hp, hl, hr⟩ := h
  exact r_ixT hp.sq (atI_nat (j := 1) rfl) (q lv hl)
theorem r_biR (h : BiV K H v b) (q : ∀ u, SgV K H u b.r → Q u H) : rIx K v (.int 2) H Q := by
  obtain ⟨p, lv, rv, rfl, hp, hl, hr⟩ := h
  exact r_ixT hp.sq (atI_nat (j := 2) rfl) (q rv hr)
theorem r_biW (h : BiV K H v b) (q : Q (.int (b.who : Nat)) H) : rIx K v (.int 0) H Q := by
  obtain ⟨p, lv, rv, rfl, hp, hl, hr⟩ := h
  exact r_ixT hp.sq (atI_nat (j := 0) rfl) q
theorem r_biT (h : BiV K H v b) (q : Q (.str b.t) H) : rIx K v (.int 3) H Q := by
  obtain ⟨p, lv, rv, rfl, hp, hl, hr⟩ := h
  exact r_ixT hp.sq (atI_nat (j := 3) rfl) q
end
section
variable {K : PySem.W.Frag} {H H' : Hp} {Q : VK} {v : V} {b : Bi}
theorem r_biSl (h : BiV K H v b) (q : ∀ p H', Ex H H' → SpV K H' (.ref p) (b.l, b.r) → Q (.ref p) H') : rSlU K v (some 1) (some 3) H Q := by
  obtain ⟨p, lv, rv, rfl, hp, hl, hr⟩ := h
  refine .inr (.inr ⟨p, _, rfl, hp.sq, fun z => ?_, fun _ p2 hp2 => ?_⟩)
  · exact absurd (show (1 : Nat) = 0 from z.1) (by decide)
  · have e : cutV [V.int (b.who : Nat), lv, rv, V.str b.t] (some 1) (some 3) = [lv, rv] := by rfl
    rw [e]
    have ex : Ex H (upd H p2 (.tup [lv, rv])) := Same.new (Same.refl H) hp2
    exact q p2 _ ex ⟨p2, lv, rv, rfl, .inl upd_same, imm (.ex ex) hl, imm (.ex ex) hr⟩
end
/-- whole numbers -/
def NumV (_ : Hp) (v : V) (i : Int) : Prop := v = .int i
instance : Imm NumV := ⟨fun _ h => h⟩
/-! ### a row as it is laid -/
section
variable {W : List Bi} {n : Nat}
/-- a row of all signs below n, in the order -/
structure Kp (W : List Bi) (n : Nat) (row : List Sg) : Prop where
  nd : row.Nodup
  mem : ∀ x, x ∈ row ↔ Ok (sz W) n x
  lt : ∀ (i j : Nat) (x y : Sg), row[i]? = some x → row[j]? = some y → A (lf W) (rf W) x y → i < j
def putIn (W : List Bi) (row : List Sg) (c at_ : Nat) : List Sg := row.take at_ ++ Tl.rowOf (sz W) c ++ row.drop at_
theorem nodup_split {α : Type} {l : List α} {k : Nat} (h : l.Nodup) : ∀ x, x ∈ l.take k → x ∉ l.drop k := by
  intro x h1 h2
  have := h
  rw [← List.take_append_drop k l, List.nodup_append] at this
  exact this.2.2 x h1 x h2 rfl
theorem Kp.one : Kp W 1 [(0, 0), (0, 1)] where
  nd := by decide
  mem := fun x => by
    constructor
    · intro h
      simp only [List.mem_cons, List.not_mem_nil, or_false] at h
      rcases h with rfl | rfl
      · exact ⟨by decide, show 0 < 2 by decide⟩
      · exact ⟨by decide, show 1 < 2 by decide⟩
    · rintro ⟨h1, h2⟩
      obtain ⟨a, b⟩ := x
      have ea : a = 0 := Nat.lt_one_iff.mp h1
      subst ea
      have h2 : b < 2 := h2
      have : b = 0 ∨ b = 1 := by omega
      rcases this with rfl | rfl <;> simp
  lt := fun i j x y hi hj a => by
    have li := (List.getElem?_eq_some_iff.mp hi).1
    have lj := (List.getElem?_eq_some_iff.mp hj).1
    have li : i < 2 := li
    have lj : j < 2 := lj
    have ci : i = 0 ∨ i = 1 := by omega
    have cj : j = 0 ∨ j = 1 := by omega
    have s : x.1 = y.1 := by
      rcases ci with rfl | rfl <;> rcases cj with rfl | rfl <;> simp at hi hj <;> rw [← hi, ← hj]
    have a2 := (A.same_iff s).mp a
    rcases ci with rfl | rfl <;> rcases cj with rfl | rfl <;> simp at hi hj <;> rw [← hi, ← hj] at a2 <;> simp at a2 ⊢
/-- the place of an item -/
theorem idx_at {row : List Sg} {x : Sg} (h : x ∈ row) : row[row.idxOf x]? = some x := by
  rw [List.getElem?_eq_getElem (List.idxOf_lt_length_of_mem h), List.getElem_idxOf]
theorem idx_first {row : List Sg} {x : Sg} : ∀ i, i < row.idxOf x → row[i]? ≠ some x := by
  intro i hi e
  obtain ⟨h, e⟩ := List.getElem?_eq_some_iff.mp e
  have := List.not_of_lt_findIdx (xs := row) (p := (· == x)) (i := i) hi
  rw [e] at this
  simp at this
theorem nd_idx {row : List Sg} (nd : row.Nodup) {i : Nat} {x : Sg} (h : row[i]? = some x) : row.idxOf x = i := by
  have h1 := idx_at (List.mem_of_getElem? h)
  exact (List.getElem?_inj (List.idxOf_lt_length_of_mem (List.mem_of_getElem? h)) nd).mp (h1.trans h.symm)
variable (wv : Wv (lf W) (rf W) (sz W) W.length)
include wv
theorem Kp.put {row : List Sg} {at_ : Nat} (k : Kp W n row) (n0 : 0 < n) (nl : n < W.length) (h1 : row.idxOf (lf W n) < at_) (h2 : at_ ≤ row.idxOf (rf W n)) : Kp W (n + 1) (putIn W row n at_) := by
  have okl := wv.okL n0 nl
  have okr := wv.okR n0 nl
  have ml : lf W n ∈ row := (k.mem _).mpr ⟨wv.l n n0 nl, okl.2⟩
  have mr : rf W n ∈ row := (k.mem _).mpr ⟨wv.r n n0 nl, okr.2⟩
  have li := idx_at ml
  have ri := idx_at mr
  have rlen := List.idxOf_lt_length_of_mem mr
  have atl : at_ ≤ row.length := by omega
  have tkl : (row.take at_).length = at_ := by rw [List.length_take]; omega
  have old : ∀ x, x ∈ row → x.1 < n := fun x hx => ((k.mem x).mp hx).1
  have new : ∀ x, x ∈ Tl.rowOf (sz W) n → x.1 = n ∧ x.2 < sz W n := fun x hx => by
    unfold Tl.rowOf at hx
    obtain ⟨i, hi, rfl⟩ := List.mem_map.mp hx
    exact ⟨rfl, List.mem_range.mp hi⟩
  have newAt : ∀ {i : Nat} {x : Sg}, (Tl.rowOf (sz W) n)[i]? = some x → x = (n, i) := fun {i x} hx => by
    unfold Tl.rowOf at hx
    rw [List.getElem?_map] at hx
    obtain ⟨j, hj, rfl⟩ := Option.map_eq_some_iff.mp hx
    have lj := (List.getElem?_eq_some_iff.mp hj).1
    rw [List.length_range] at lj
    rw [List.getElem?_range lj] at hj
    rw [Option.some.inj hj]
  refine ⟨?_, fun x => ?_, ?_⟩
  · unfold putIn
    rw [List.append_assoc, List.nodup_append]
    refine ⟨k.nd.sublist (List.take_sublist _ _), ?_, ?_⟩
    · rw [List.nodup_append]
      refine ⟨?_, k.nd.sublist (List.drop_sublist _ _), fun x hx y hy e => ?_⟩
      · unfold Tl.rowOf
        exact List.Pairwise.map _ (fun a b h e => h (Prod.mk.inj e).2) List.nodup_range
      · subst e
        have := old _ (List.mem_of_mem_drop hy)
        have := (new _ hx).1
        omega
    · intro x hx y hy e
      subst e
      rcases List.mem_append.mp hy with hy | hy
      · have := old _ (List.mem_of_mem_take hx)
        have := (new _ hy).1
        omega
      · exact nodup_split k.nd x hx hy
  · unfold putIn
    rw [List.mem_append, List.mem_append]
    constructor
    · rintro ((h | h) | h)
      · exact ((k.mem x).mp (List.mem_of_mem_take h)).mono (by omega)
      · obtain ⟨a, b⟩ := new x h
        exact ⟨by omega, by rw [a]; exact b⟩
      · exact ((k.mem x).mp (List.mem_of_mem_drop h)).mono (by omega)
    · intro ok
      by_cases e : x.1 = n
      · refine .inl (.inr ?_)
        unfold Tl.rowOf
        exact List.mem_map.mpr ⟨x.2, List.mem_range.mpr (by rw [← e]; exact ok.2), Prod.ext e.symm rfl⟩
      · have hx : x ∈ row := (k.mem x).mpr ⟨by have := ok.1; omega, ok.2⟩
        rw [← List.take_append_drop at_ row] at hx
        rcases List.mem_append.mp hx with hx | hx
        · exact .inl (.inl hx)
        · exact .inr hx
  · -- where a sign of the new row stands
    have cases_at : ∀ {i : Nat} {x : Sg}, (putIn W row n at_)[i]? = some x → (i < at_ ∧ row[i]? = some x) ∨ (at_ ≤ i ∧ i < at_ + sz W n ∧ x = (n, i - at_)) ∨ (at_ + sz W n ≤ i ∧ row[i - sz W n]? = some x) := by
      intro i x h
      unfold putIn at h
      rw [List.append_assoc] at h
      by_cases c1 : i < at_
      · left
        rw [List.getElem?_append_left (by rw [tkl]; exact c1), List.getElem?_take_of_lt c1] at h
        exact ⟨c1, h⟩
      · rw [List.getElem?_append_right (by rw [tkl]; omega), tkl] at h
        by_cases c2 : i < at_ + sz W n
        · right; left
          rw [List.getElem?_append_left (by rw [Tl.rowOf_len]; omega)] at h
          exact ⟨by omega, c2, newAt h⟩
        · right; right
          rw [List.getElem?_append_right (by rw [Tl.rowOf_len]; omega), Tl.rowOf_len, List.getElem?_drop] at h
          refine ⟨by omega, ?_⟩
          rw [show i - sz W n = at_ + (i - at_ - sz W n) by omega]
          exact h
    have okW : ∀ {x : Sg}, Ok (sz W) n x → OkW W x := fun ok => ok.mono (by omega)
    -- behind the left, ahead of the right
    have ltL : ∀ {i : Nat} {x : Sg}, row[i]? = some x → A (lf W) (rf W) x (n, 0) → i < at_ := by
      intro i x hi a
      have hx := (k.mem x).mp (List.mem_of_getElem? hi)
      rcases (A.l_iff (x := x) (y := (n, 0)) hx.1).mp a with e | a
      · have e : x = lf W n := e
        rw [e] at hi
        have := nd_idx k.nd hi
        omega
      · have := k.lt i _ x _ hi li a
        omega
    have gtR : ∀ {i : Nat} {y : Sg} {c : Nat}, row[i]? = some y → A (lf W) (rf W) (n, c) y → at_ ≤ i := by
      intro i y c hi a
      have hy := (k.mem y).mp (List.mem_of_getElem? hi)
      rcases (A.r_iff (x := (n, c)) (y := y) hy.1).mp a with e | a
      · have e : rf W n = y := e
        rw [← e] at hi
        have := nd_idx k.nd hi
        omega
      · have := k.lt _ i _ y ri hi a
        omega
    have anyL : ∀ {x : Sg} {c : Nat}, x.1 < n → A (lf W) (rf W) x (n, c) → A (lf W) (rf W) x (n, 0) := fun {x c} hx a =>
      (A.l_iff (x := x) (y := (n, 0)) hx).mpr ((A.l_iff (x := x) (y := (n, c)) hx).mp a)
    intro i j x y hi hj a
    rcases cases_at hi with ⟨c1, e1⟩ | ⟨c1, c1', e1⟩ | ⟨c1, e1⟩ <;> rcases cases_at hj with ⟨c2, e2⟩ | ⟨c2, c2', e2⟩ | ⟨c2, e2⟩
    · exact k.lt i j x y e1 e2 a
    · omega
    · omega
    · exfalso
      rw [e1] at a
      have := gtR e2 a
      omega
    · rw [e1, e2] at a
      have := (A.same_iff (x := (n, i - at_)) (y := (n, j - at_)) rfl).mp a
      have : i - at_ < j - at_ := this
      omega
    · omega
    · have := k.lt _ _ x y e1 e2 a
      omega
    · exfalso
      rw [e2] at a
      have hx := (k.mem x).mp (List.mem_of_getElem? e1)
      have := ltL e1 (anyL hx.1 a)
      omega
    · have := k.lt _ _ x y e1 e2 a
      omega
/-- the left stands ahead of the right -/
theorem Kp.lr {row : List Sg} (k : Kp W n row) (n0 : 0 < n) (nl : n < W.length) : row.idxOf (lf W n) < row.idxOf (rf W n) ∧ row.idxOf (rf W n) < row.length ∧ lf W n ∈ row ∧ rf W n ∈ row := by
  have ml : lf W n ∈ row := (k.mem _).mpr ⟨wv.l n n0 nl, (wv.okL n0 nl).2⟩
  have mr : rf W n ∈ row := (k.mem _).mpr ⟨wv.r n n0 nl, (wv.okR n0 nl).2⟩
  exact ⟨k.lt _ _ _ _ (idx_at ml) (idx_at mr) (wv.lr n n0 nl), List.idxOf_lt_length_of_mem mr, ml, mr⟩
end
/-- the choice of a chunk -/
def chc (ch : List Int) (c : Nat) : Int := (ch[c - 1]?).getD 0
/-- the row of the chunks below n, laid by choices -/
def laid (W : List Bi) (ch : List Int) : Nat → List Sg
  | 0 => [(0, 0), (0, 1)]
  | 1 => [(0, 0), (0, 1)]
  | n + 2 =>
    let row := laid W ch (n + 1)
    let b := row.idxOf (lf W (n + 1)) + 1
    putIn W row (n + 1) (b + (chc ch (n + 1) % (((row.idxOf (rf W (n + 1)) - b : Nat) : Int) + 1)).toNat)
theorem laid_succ {W : List Bi} {ch : List Int} {n : Nat} (h : 0 < n) : laid W ch (n + 1) = putIn W (laid W ch n) n ((laid W ch n).idxOf (lf W n) + 1 + (chc ch n % ((((laid W ch n).idxOf (rf W n) - ((laid W ch n).idxOf (lf W n) + 1) : Nat) : Int) + 1)).toNat) := by
  cases n with
  | zero => exact absurd h (Nat.lt_irrefl _)
  | succ n => rfl
theorem laid_kp {W : List Bi} (wv : Wv (lf W) (rf W) (sz W) W.length) {ch : List Int} : ∀ n, 0 < n → n ≤ W.length → Kp W n (laid W ch n)
  | 0, h, _ => absurd h (Nat.lt_irrefl _)
  | 1, _, _ => Kp.one
  | n + 2, _, hl => by
    have k := laid_kp wv (ch := ch) (n + 1) (by omega) (by omega)
    obtain ⟨a, b, _, _⟩ := k.lr wv (by omega) (by omega)
    have m1 := Int.emod_nonneg (chc ch (n + 1)) (b := (((laid W ch (n + 1)).idxOf (rf W (n + 1)) - ((laid W ch (n + 1)).idxOf (lf W (n + 1)) + 1) : Nat) : Int) + 1) (by omega)
    have m2 := Int.emod_lt_of_pos (chc ch (n + 1)) (b := (((laid W ch (n + 1)).idxOf (rf W (n + 1)) - ((laid W ch (n + 1)).idxOf (lf W (n + 1)) + 1) : Nat) : Int) + 1) (by omega)
    exact k.put wv (by omega) (by omega) (by omega) (by omega)
end Wd

/-! stands and cuts as plain data -/
namespace Wd
open PySem PySem.Spec PyProof.Rows L2 Dk Tl
theorem shl_cast (b : Nat) : (1 * 2 ^ ((b : Int)).toNat : Int) = ((1 <<< b : Nat) : Int) := by
  rw [Int.toNat_natCast, Nat.one_shiftLeft]
  push_cast
  omega
theorem xor_val (x b : Nat) : Builtin.bitXor (x : Int) (1 * 2 ^ ((b : Int)).toNat) = ((x ^^^ 1 <<< b : Nat) : Int) := by
  rw [shl_cast, Bits.bitXor_pp (Int.natCast_nonneg _) (Int.natCast_nonneg _), Int.toNat_natCast, Int.toNat_natCast]
theorem or1_val (x b : Nat) : Builtin.bitOr (x : Int) (1 * 2 ^ ((b : Int)).toNat) = ((x ||| 1 <<< b : Nat) : Int) := by
  rw [shl_cast, Bits.bitOr_pp (Int.natCast_nonneg _) (Int.natCast_nonneg _), Int.toNat_natCast, Int.toNat_natCast]
theorem bit_shl (b k : Nat) : (1 <<< b).testBit k = decide (k = b) := by
  rw [Nat.one_shiftLeft, Nat.testBit_two_pow]
  by_cases h : b = k
  · subst h; simp
  · simp [h, Ne.symm h]
theorem bits_le {s n k : Nat} (h : s < 2 ^ n) (hk : s.testBit k = true) : k < n := by
  rcases Nat.lt_or_ge k n with z | z
  · exact z
  · have := Nat.testBit_lt_two_pow (Nat.lt_of_lt_of_le h (Nat.pow_le_pow_right (by decide) z))
    rw [this] at hk
    cases hk
theorem intBits_lt {s : Nat} {k : Nat} (h : s.testBit k = true) : k < Builtin.Int.intBits (s : Int) := by
  unfold Builtin.Int.intBits
  have s0 : s ≠ 0 := fun z => by rw [z, Nat.zero_testBit] at h; cases h
  rw [if_neg (by simpa using s0), Int.natAbs_natCast]
  have h2 := Nat.ge_two_pow_of_testBit h
  rcases Nat.lt_or_ge s.log2 k with z | z
  · exact absurd ((Nat.log2_lt s0).mp z) (by omega)
  · omega
theorem intBits_le {s n : Nat} (h : s < 2 ^ n) : Builtin.Int.intBits (s : Int) ≤ n := by
  unfold Builtin.Int.intBits
  by_cases s0 : s = 0
  · subst s0; simp
  · rw [if_neg (by simpa using s0), Int.natAbs_natCast]
    exact (Nat.log2_lt s0).mpr h
/-- the deeds of a stand -/
def deedsOf (s : Nat) : List Nat := (List.range 300).filter fun d => s.testBit d
theorem deeds_any {s n : Nat} (h : s < 2 ^ 300) (hn : ∀ k, s.testBit k = true → k < n) : (List.range n).filter (fun d => s.testBit d) = deedsOf s := by
  unfold deedsOf
  have key : ∀ m n : Nat, (∀ k, s.testBit k = true → k < n) → n ≤ m → (List.range m).filter (fun d => s.testBit d) = (List.range n).filter (fun d => s.testBit d) := by
    intro m n hn hmn
    obtain ⟨k, rfl⟩ : ∃ k, m = n + k := ⟨m - n, by omega⟩
    rw [List.range_add, List.filter_append]
    have : (List.filter (fun d => s.testBit d) ((List.range k).map (n + ·))) = [] := by
      rw [List.filter_eq_nil_iff]
      intro a ha hb
      obtain ⟨b, _, rfl⟩ := List.mem_map.mp ha
      have := hn _ hb
      omega
    rw [this, List.append_nil]
  have h3 : ∀ k, s.testBit k = true → k < 300 := fun k hk => bits_le h hk
  rcases Nat.le_total n 300 with z | z
  · exact (key 300 n hn z).symm
  · exact key n 300 h3 z
/-! ### cuts -/
abbrev Tri := Nat × Nat × Nat
def TrV (K : PySem.W.Frag) (H : Hp) (v : V) (x : Tri) : Prop := ∃ p, v = .ref p ∧ Tu K H p [.int (x.1 : Nat), .int (x.2.1 : Nat), .int (x.2.2 : Nat)]
instance {K : PySem.W.Frag} : Imm (TrV K) := ⟨fun t h => h.imp fun p z => ⟨z.1, z.2.tk t⟩⟩
abbrev StV (K : PySem.W.Frag) := TupV K (TrV K)
abbrev Cts := List (Nat × List Tri)
def CtV (K : PySem.W.Frag) (H : Hp) (v : V) (cts : Cts) : Prop := ∃ (d : Addr) (kvs : List (Key × V)), v = .ref d ∧ H d = some (.dK kvs) ∧ P2 (fun a b => a.1 = .inl (b.1 : Int) ∧ StV K H a.2 b.2) kvs cts
theorem CtV.up {K : PySem.W.Frag} {H H' : Hp} {v : V} {cts : Cts} (e : Ex H H') (h : CtV K H v cts) : CtV K H' v cts := by
  obtain ⟨d, kvs, h1, h2, h3⟩ := h
  exact ⟨d, kvs, h1, e _ _ h2, h3.imp fun _ _ z => ⟨z.1, imm (R := StV K) (.ex e) z.2⟩⟩
/-- good cuts: no deed twice, small -/
structure Gc (cts : Cts) : Prop where
  nd : (cts.map Prod.fst).Nodup
  few : cts.length ≤ 300
  len : ∀ e ∈ cts, e.2.length ≤ 100 ∧ ∀ t ∈ e.2, t.2.2 ≤ 100
  far : ∀ e ∈ cts, ∀ t ∈ e.2, t.2.1 ≤ 1000
def inTri (x : Sg) (t : Tri) : Bool := decide (t.1 = x.1) && (decide (t.2.1 ≤ x.2) && decide (x.2 < t.2.1 + t.2.2))
def among (st : List Tri) (x : Sg) : Bool := st.any (inTri x)
def isCut (cts : Cts) (s : Nat) (x : Sg) : Bool := cts.any fun e => s.testBit e.1 && among e.2 x
def whoOf (W : List Bi) (c : Nat) : Nat := match W[c]? with | some b => b.who | none => 0
theorem who_at {W : List Bi} {c : Nat} {b : Bi} (h : W[c]? = some b) : whoOf W c = b.who := by unfold whoOf; rw [h]
def shown (W : List Bi) (cts : Cts) (s : Nat) (x : Sg) : Bool := decide (0 < x.1) && (s.testBit (whoOf W x.1) && !isCut cts s x)
section
variable {K : PySem.W.Frag} {H : Hp} {Q : VK} {v : V}
theorem r_gTri {σ : L2.St} {t : TGs} {N : L2.St → Hp → Prop} {x : Tri} (h : TrV K H v x) (k : t [.int (x.1 : Nat), .int (x.2.1 : Nat), .int (x.2.2 : Nat)] σ H N) : gTup K 3 t v σ H N := by
  obtain ⟨p, rfl, hp⟩ := h
  exact r_gtup hp.sq rfl k
end
/-- a dict that was locked: what was known is known again -/
theorem ex_unlock {H H' : Hp} {d : Addr} {o : Obj} {u : HO} (hd : H d = some u) (e : Ex (upd H d (.frz o u)) H') : Ex H (upd H' d u) := fun a w ha => by
  by_cases h : a = d
  · subst h
    rw [upd_same, ← ha, hd]
  · rw [upd_ne h]
    exact e _ _ (by rw [upd_ne h]; exact ha)
theorem tk_lock {H : Hp} {d : Addr} {o : Obj} {kvs : List (Key × V)} (hd : H d = some (.dK kvs)) : Tk H (upd H d (.frz o (.dK kvs))) := fun p xs h => by
  have n : p ≠ d := fun z => by rw [z, hd] at h; cases h
  rw [upd_ne n]
  exact h
/-- what an int key finds -/
theorem valV_at {K : PySem.W.Frag} {H : Hp} : ∀ {kvs : List (Key × V)} {cts : Cts}, P2 (fun a b => a.1 = .inl (b.1 : Int) ∧ StV K H a.2 b.2) kvs cts → (cts.map Prod.fst).Nodup → ∀ {i : Nat} {k : Key} {v : V}, kvs[i]? = some (k, v) → valV kvs k = some v := by
  intro kvs cts h nd i k v hi
  induction h generalizing i with
  | nil => simp at hi
  | @cons a b l m r t ih =>
    rw [List.map_cons, List.nodup_cons] at nd
    cases i with
    | zero =>
      have : a = (k, v) := Option.some.inj hi
      subst this
      exact valV_pos rfl
    | succ i =>
      have hi : l[i]? = some (k, v) := hi
      have ne : ¬ a.1 = k := fun e => by
        obtain ⟨b', hb', rb⟩ := t.get hi
        rw [r.1] at e
        have e2 : (Sum.inl (b.1 : Int) : Key) = .inl (b'.1 : Int) := e.trans rb.1
        have : b.1 = b'.1 := by have := Sum.inl.inj e2; omega
        exact nd.1 (List.mem_map.mpr ⟨b', List.mem_of_getElem? hb', this.symm⟩)
      rw [valV_neg ne]
      exact ih nd.2 hi
end Wd

namespace Dk
open PySem PySem.Spec PyProof.Rows L2
section
variable {K : PySem.W.Frag} {σ : L2.St} {H : Hp} {D : Ends} {g : TG} {tb : TS}
/-- for i, x in enumerate(l), l a list -/
theorem r_forNo {ta : TA} (h : ta σ H fun vs H1 => ∃ a xs, vs = [.ref a] ∧ SqL K H1 a xs ∧ LoopW (Ite K a) g tb D σ H1) : tFor (L2.iEnum K ta) g tb D σ H := h
theorem l_N {a : Addr} {xs : List V} (hs : SqL K H a xs) (Pv : Nat → L2.St → Hp → Prop) (p0 : Pv 0 σ H) (hl : ∀ i σ H, Pv i σ H → SqL K H a xs)
    (ht : ∀ i x σ H p, xs[i]? = some x → Pv i σ H → H p = none → g (.ref p) σ (upd H p (.tup [.int (i : Nat), x])) fun σ2 H2 => tb { D with nx := Pv (i + 1), ct := Pv (i + 1), bk := D.nx } σ2 H2)
    (hd : ∀ σ H, Pv xs.length σ H → D.nx σ H) : ∃ b ys, [V.ref a] = [.ref b] ∧ SqL K H b ys ∧ LoopW (Ite K b) g tb D σ H := by
  refine ⟨a, xs, rfl, hs, for_it walk_enum Pv p0 (fun i σ H _ p => hl i σ H p) (fun i x σ H H' hi p y => ?_) hd⟩
  obtain ⟨T, x1, x', rfl, hT, rfl, h1, hx⟩ := y
  obtain rfl := Option.some.inj h1
  exact ht i x' σ H T hx p hT
/-- {k: v for x in t}, t a tuple -/
theorem r_dcTo {tl : TE} {tt : TT} {tk tv : TE} {vs : List Nat} {Q : VK} (h : tl σ H fun x H1 => ∃ a, x = .ref a ∧ (∃ xs, SqT K H1 a xs) ∧ ∀ D, H1 D = none → ∃ W : Nat → Nat → Hp → Prop, (∃ m, W 0 m (upd H1 D (.dK []))) ∧ ∀ i m H, W i m H →
  ((Itt K a).stop i H ∧ Q (.ref D) H) ∨ ((Itt K a).go i H ∧ ∃ Nx : Hp → Prop, (∀ H', Nx H' → ∃ m', m' < m ∧ W (i + 1) m' H') ∧ ∀ x H', (Itt K a).yld i H x H' → g x (wipe σ vs) H' fun σ2 H2 => wipe σ2 vs = wipe σ vs ∧ tt σ2 H2 fun b H3 =>
    if b = true then tk σ2 H3 fun y H4 => tv σ2 H4 fun z H5 => ∃ kvs k, y = kV k ∧ H5 D = some (.dK kvs) ∧ kvs.length < sizeLine ∧ Nx (upd H5 D (.dK (putK kvs k z))) else Nx H3)) : tDc (iTup K tl) g tt tk tv vs σ H Q := h
end
end Dk
namespace K63
open PySem PySem.Spec PyProof.Rows L2 Dk Q61 Wd
/-- one step of a reading -/
local macro_rules | `(tactic| walk_at "rd1") => `(tactic| first
  | ((with_reducible refine r_var (v := ?rv) ?rh ?_); (case rh => rfl))
  | with_reducible refine r_c ?_
  | with_reducible refine r_seq ?_
  | with_reducible refine r_asg ?_
  | with_reducible refine r_par ?_
  | with_reducible refine r_gname ?_
  | with_reducible refine r_op ?_
  | with_reducible refine r_forLo ?_
  | with_reducible refine r_forTo ?_
  | with_reducible refine r_forSo ?_
  | with_reducible refine r_forRo ?_
  | with_reducible refine r_forRvo ?_
  | with_reducible refine r_forZo ?_
  | with_reducible refine r_revS ?_
  | with_reducible refine r_lcRo ?_
  | with_reducible refine r_lcLo ?_
  | with_reducible refine r_yes ?_
  | with_reducible refine r_callK0 ?_
  | with_reducible refine r_break ?_
  | with_reducible refine r_continue ?_
  | with_reducible refine r_forR2o ?_
  | with_reducible refine r_forEo ?_
  | with_reducible refine r_forESo ?_
  | with_reducible refine r_xfo ?_
  | with_reducible refine r_noP ?_
  | with_reducible refine r_part ?_
  | with_reducible refine r_pI ?_
  | with_reducible refine r_gcons ?_
  | with_reducible refine r_gnil ?_
  | with_reducible refine r_mkO ?_
  | with_reducible refine r_un ?_
  | with_reducible refine r_addI ?_
  | with_reducible refine r_I0 ?_
  | with_reducible refine r_U ?_
  | with_reducible refine r_cons ?_
  | with_reducible refine r_nil ?_
  | with_reducible refine r_CB ?_
  | with_reducible refine r_call ?_
  | with_reducible refine r_callS ?_
  | with_reducible refine r_int ?_
  | with_reducible refine r_max ?_
  | with_reducible refine r_min ?_
  | with_reducible refine r_test ?_
  | with_reducible refine r_B ?_
  | with_reducible refine r_blv ?_
  | with_reducible refine r_and ?_
  | with_reducible refine r_or ?_
  | with_reducible refine r_not ?_
  | with_reducible refine r_andV ?_
  | with_reducible refine r_orV ?_
  | with_reducible refine r_notV ?_
  | with_reducible refine r_ifE ?_
  | with_reducible refine r_ifS ?_
  | with_reducible refine r_ret ?_
  | with_reducible refine r_retN ?_
  | with_reducible refine r_drop ?_
  | with_reducible refine r_next ?_
  | with_reducible refine r_sl ?_
  | with_reducible refine r_gsub ?_
  | with_reducible refine r_bm ?_
  | with_reducible refine r_bm0 ?_
  | with_reducible refine r_tup ?_
  | with_reducible refine r_lst ?_
  | with_reducible refine r_isN ?_
  | with_reducible refine r_notN ?_
  | with_reducible refine r_chain ?_
  | with_reducible refine r_callK ?_
  | with_reducible refine r_isB ?_
  | with_reducible refine r_lcEio ?_
  | with_reducible refine r_forEi ?_
  | with_reducible refine r_lcTo ?_
  | with_reducible refine r_lcSo ?_
  | with_reducible refine r_m1 ?_
  | with_reducible refine r_dget ?_
  | with_reducible refine r_din ?_
  | with_reducible refine r_dnotin ?_
  | with_reducible refine Tc.r_inC ?_
  | with_reducible refine Tc.r_getC ?_
  | with_reducible refine r_starC ?_
  | with_reducible refine r_callKS ?_
  | with_reducible refine Dk.r_fld ?_
  | with_reducible refine Dk.r_forNo ?_
  | with_reducible refine Dk.r_dcTo ?_
  | with_reducible refine Dk.r_sfld ?_
  | with_reducible refine Dk.r_meth ?_
  | with_reducible refine Dk.r_methK ?_
  | with_reducible refine Dk.r_methT ?_
  | with_reducible refine Dk.r_makeK ?_
  | with_reducible refine r_itt ?_
  | with_reducible refine r_iff ?_
  | with_reducible refine r_ittN ?_
  | with_reducible refine r_iffN ?_
  | ((with_reducible refine r_ittD ?rh ?_); (case rh => rfl))
  | ((with_reducible refine r_iffD ?rh ?_); (case rh => rfl))
  | ((with_reducible refine r_modP ?rh ?_); (case rh => decide))
  | ((with_reducible refine r_eq ?rh ?_); (case rh => rfl))
  | ((with_reducible refine r_eqP ?rh ?_); (case rh => rfl))
  | ((with_reducible refine r_ne ?rh ?_); (case rh => rfl)))
local macro_rules | `(tactic| walk_at "rd") => `(tactic| repeat walk_at "rd1")
local macro_rules | `(tactic| walk_at "isi") => `(tactic| first | refine r_isi (b := true) (by assumption) (by decide +kernel) ?_ | refine r_isi (b := false) (by assumption) (by decide +kernel) ?_)
local macro_rules | `(tactic| walk_at "rs1") => `(tactic| first
  | with_reducible refine r_seq ?_
  | with_reducible refine r_asg ?_
  | with_reducible refine r_gname ?_
  | with_reducible refine r_ret ?_)
local macro_rules | `(tactic| walk_at "rs") => `(tactic| repeat walk_at "rs1")

/-- the rows of the screen -/
noncomputable def sh (n : Nat) (b : Bool) (ls : List Str) (aw : List Nat) : Nat → List Tri
  | 0 => []
  | i + 1 => sh n b ls aw i ++ match ls[i]? with
    | some z => if i ∈ aw then [] else (pcs n b z).map fun p => (i, p.1, p.2)
    | none => []
theorem sh_in {n : Nat} {b : Bool} {ls : List Str} {aw : List Nat} {i : Nat} (m : i ∈ aw) : sh n b ls aw (i + 1) = sh n b ls aw i := by
  rw [sh]
  cases ls[i]? with
  | none => exact List.append_nil _
  | some z => dsimp only; rw [if_pos m, List.append_nil]
theorem sh_out {n : Nat} {b : Bool} {ls : List Str} {aw : List Nat} {i : Nat} {z : Str} (h : ls[i]? = some z) (m : i ∉ aw) : sh n b ls aw (i + 1) = sh n b ls aw i ++ (pcs n b z).map fun p => (i, p.1, p.2) := by
  rw [sh, h]
  dsimp only
  rw [if_neg m]
theorem sh_len {n : Nat} {b : Bool} {ls : List Str} {aw : List Nat} (n0 : 1 ≤ n) (hz : ∀ z ∈ ls, z.length ≤ 700) : ∀ i, (sh n b ls aw i).length ≤ 701 * i
  | 0 => Nat.le_refl _
  | i + 1 => by
    have ih := sh_len (b := b) (aw := aw) n0 hz i
    rw [sh, List.length_append]
    cases e : ls[i]? with
    | none => dsimp only; rw [List.length_nil]; omega
    | some z =>
      dsimp only
      split
      · rw [List.length_nil]; omega
      · rw [List.length_map, pcs_len]
        have := tt_le (b := b) (z := z) n0
        have := hz z (List.mem_of_getElem? e)
        omega
theorem p2_app {α : Type} {R : V → α → Prop} {xs ys : List V} {l m : List α} (h : P2 R xs l) (g : P2 R ys m) : P2 R (xs ++ ys) (l ++ m) := by
  induction h with
  | nil => exact g
  | cons a _ ih => exact .cons a ih
/-- the dict of the hidden lines -/
def Aw (ks : List (Key × V)) (aw : List Nat) : Prop := ∀ k : Nat, (valV ks (Sum.inl (k : Int) : Key)).isSome = true ↔ k ∈ aw
theorem Aw.put {ks : List (Key × V)} {aw : List Nat} {k : Nat} {v : V} (h : Aw ks aw) : Aw (putK ks (Sum.inl (k : Int) : Key) v) (aw ++ [k]) := fun j => by
  rw [valV_put, List.mem_append, List.mem_singleton]
  by_cases e : j = k
  · subst e; simp
  · rw [if_neg (show ¬ ((Sum.inl (j : Int) : Key) = Sum.inl (k : Int)) from fun z => e (Int.ofNat.inj (Sum.inl.inj z))), h j]
    exact ⟨.inl, fun z => z.resolve_right e⟩
def spScr (C : Addr) (K : PySem.W.Frag) : Sp := fun vs H Q _ => ∃ (L dk ln : Addr) (n : Nat) (b : Bool) (kn ls : List Str) (hv : V) (aw : List Nat), vs = [.ref L, hv] ∧ Lay K H C L dk ln n b kn ls ∧ TupV K IntV H hv aw ∧ aw.length ≤ 400 ∧ ls.length ≤ 400 ∧ (∀ z ∈ ls, z.length ≤ 700) ∧ 1 ≤ n ∧
  ∀ v H', Ex H H' → TupV K (TrV K) H' v (sh n b ls aw ls.length) → Q v H'
def spShn (K : PySem.W.Frag) : Sp := fun vs H Q _ => ∃ (bv av : V) (n : Nat) (b : Bool) (ls : List Str) (aw : List Nat), vs = [bv, .int (n : Nat), .bl b, av] ∧ TupV K StrV H bv ls ∧ TupV K IntV H av aw ∧ aw.length ≤ 400 ∧ ls.length ≤ 400 ∧ (∀ z ∈ ls, z.length ≤ 700) ∧ 1 ≤ n ∧ n ≤ 100 ∧
  ∀ v H', Ex H H' → TupV K (TrV K) H' v (sh n b ls aw ls.length) → Q v H'
section
variable {P : Program} {w : World} {K : PySem.W.Frag} {mg : Str → Option Value} {base : Heap}
theorem ok_Layout_screen_rows (T : Txt K mg) : FnOk P w K mg base CX0 1 T.a_Layout_screen_rows T.d_Layout_screen_rows ["self", "hidden"] (spScr T.c_Layout K) := by
  refine T.F_Layout_screen_rows.ok sc_Layout_screen_rows (fun vs H Q E h => ?_) (fun cdv A outer s H vs Q E hr h => ?_)
  · obtain ⟨L, dk, ln, n, b, kn, ls, hv, aw, rfl, _⟩ := h
    rfl
  · obtain ⟨L, dk, ln, n, b, kn, ls, hv, aw, rfl, ⟨⟨dx, hL⟩, ⟨kvs, hk, hkv⟩, lv, hl, hlv⟩, ha, al, ll, lz, n0, q⟩ := h
    obtain ⟨a, xs, rfl, ha, hx⟩ := ha
    refine ⟨_, (pss_cons (Dk.ps_setDc (i := 3) (own := [("line", 2)]) (g := gName 2) rfl sc_Layout_screen_rows.nd rfl rfl (Dk.sw_trueD rfl rfl rfl (by decide +kernel)) (pi_tup (pv 1)) (blkOk_by (N := N_Layout_screen_rows) (sc := defScope s_Layout_screen_rows) (by decide +kernel)) (fun _ _ _ _ _ => pg_name (i := 2) sc_Layout_screen_rows.nd rfl (Or.inl rfl)) (fun _ _ _ _ _ => pts_nil) (fun _ _ _ _ _ => (pv 2)) (fun _ _ _ _ _ => pe_bl))
        (pss_cons (ps_set (i := 4) sc_Layout_screen_rows.nd rfl (Or.inl rfl) (pe_lst pa_nil))
        (pss_cons (ps_for PassesOwn.never rfl (pi_enum (by rfl) T.n_enumerate (pa_cons (pe_fld (pv 0) rfl) pa_nil)) (pg_tup rfl (pgs_cons (pg_name (i := 2) sc_Layout_screen_rows.nd rfl (Or.inr rfl)) (pgs_cons (pg_name (i := 5) sc_Layout_screen_rows.nd rfl (Or.inl rfl)) pgs_nil))) (pss_one (ps_if (pt_cmp (pc_dnotin (Nat.lt_of_le_of_lt (Nat.add_le_add_left (by decide : 1 ≤ 65) _) hr.units65) (pv 2) (pv 3))) (pss_one (ps_expr (pe_bm PySem.F.plainAttrs_list PySem.F.slot_list_extend PySem.F.type_list_extend mt_extend (pv 4) (pa_cons (pe_lc (own := [("start", 6), ("end", 7)]) (g := gTup K 2 (gCons (gName 6) (gCons (gName 7) gNil))) rfl sc_Layout_screen_rows.nd (pi_tup (pv 5)) (blkOk_by (N := N_Layout_screen_rows) (sc := defScope s_Layout_screen_rows) (by decide +kernel)) (fun _ _ _ _ _ => pg_tup rfl (pgs_cons (pg_name (i := 6) sc_Layout_screen_rows.nd rfl (Or.inl rfl)) (pgs_cons (pg_name (i := 7) sc_Layout_screen_rows.nd rfl (Or.inl rfl)) pgs_nil))) (fun _ _ _ _ _ => pts_nil) (fun _ _ _ _ _ => (pe_tup (pa_cons (pv 2) (pa_cons (pv 6) (pa_cons (pv 7) pa_nil)))))) pa_nil)))) pss_nil)))
        (pss_one (ps_ret (pe_callTy call_tupU (by rfl) T.n_tuple (by decide +kernel) (pa_cons (pv 4) pa_nil))))))), ?_⟩
    walk_at "rd"
    refine ⟨a, rfl, ⟨_, ha.sq⟩, fun aD haD => dc_tup (fun i H2 => Ex H H2 ∧ ∃ ks, H2 aD = some (.dK ks) ∧ Aw ks (aw.take i) ∧ ks.length ≤ i) ⟨Same.new (Same.refl _) haD, [], upd_same, fun k => ⟨(fun h => nomatch h), (fun h => nomatch h)⟩, Nat.le_refl _⟩ (fun i H2 _ hP => (ha.up hP.1).sq) (fun i x H2 hx2 hP => ?_) (fun H2 hP => ?_)⟩
    · obtain ⟨e2, ks, gk, hks, kl⟩ := hP
      obtain ⟨k, hk1, rfl⟩ := hx.get hx2
      have il := (List.getElem?_eq_some_iff.mp hk1).1
      walk_at "rd"
      refine ⟨rfl, ?_⟩
      walk_at "rd"
      have lp := length_putK ks (Sum.inl (k : Int) : Key) (.bl true)
      refine ⟨ks, Sum.inl (k : Int), rfl, gk, by rw [sizeLine_eq]; omega, Same.mut e2 haD, _, upd_same, ?_, by omega⟩
      rw [List.take_succ, hk1]
      exact hks.put
    · obtain ⟨e2, ks, gk, hks, kl⟩ := hP
      rw [hx.len, List.take_length] at hks
      walk_at "rd"
      refine r_small nsz fun f hf => ?_
      obtain ⟨H0, k0, e0, h0⟩ := new1 hf (.lst [])
      rw [← k0]
      walk_at "rd"
      have eA : Ex H H0 := e2.trans e0
      refine ⟨_, _, _, _, _, rfl, eA _ _ hL, T.k_Layout, T.na_Layout_lines, atL, ?_⟩
      walk_at "rd"
      refine l_N (sqL (eA _ _ hl)) (fun i σ H' => ∃ y2 y5 y6 y7 xs, σ = [some (.ref L), some (.ref a), y2, some (.ref aD), some (.ref f), y5, y6, y7] ∧ Ex H2 H' ∧ Tk H0 H' ∧ H' f = some (.lst xs) ∧ P2 (TrV K H') xs (sh n b ls aw i)) ⟨none, none, none, none, [], rfl, e0, Tk.refl _, h0, .nil⟩ (fun i σ H' hP => ?_) (fun i x σ H' p hxi hP hp => ?_) (fun σ H' hP => ?_)
      · obtain ⟨_, _, _, _, _, _, e, _⟩ := hP
        exact sqL (e _ _ (e2 _ _ hl))
      · obtain ⟨y2, y5, y6, y7, xs, rfl, e, t, gf, px⟩ := hP
        obtain ⟨z, hz, hpz⟩ := hlv.get hxi
        have il : i < ls.length := (List.getElem?_eq_some_iff.mp hz).1
        obtain ⟨H5, k5, e5, h5⟩ := new1 hp (.tup [.int (i : Nat), x])
        rw [← k5]
        have eH : Ex H H5 := (e2.trans e).trans e5
        obtain ⟨pa, ys, rfl, hya, hys⟩ := imm (R := Pz K n b) (.ex eH) hpz
        have yl : ys.length ≤ 701 := by rw [hys.len, pcs_len]; have := tt_le (b := b) (z := z) n0; have := lz z (List.mem_of_getElem? hz); omega
        have sl := sh_len (b := b) (aw := aw) n0 lz i
        walk_at "rd"
        refine r_gtup (sqT h5) rfl ?_
        walk_at "rd"
        refine ⟨aD, valV ks (Sum.inl (i : Int)), rfl, DGet.k (k := Sum.inl (i : Int)) (e5 _ _ (e _ _ gk)), ?_⟩
        by_cases hin : i ∈ aw
        · rw [(hks i).mpr hin, Bool.not_true]
          walk_at "rd"
          exact ⟨_, _, _, _, xs, rfl, e.trans e5, t.trans (.ex e5), e5 _ _ gf, by rw [sh_in hin]; exact p2_imm (.ex e5) px⟩
        · rw [Bool.eq_false_iff.mpr (fun q => hin ((hks i).mp q)), Bool.not_false]
          walk_at "rd"
          refine r_tyL (sqL (e5 _ _ gf)) ?_
          walk_at "rd"
          refine l_lcT hya.sq (fun D j H7 => Ex H5 H7 ∧ ∃ zs, H7 D = some (.lst zs) ∧ P2 (TrV K H7) zs (((pcs n b z).take j).map fun p => (i, p.1, p.2))) (fun D hD => ⟨Same.new (Same.refl _) hD, [], upd_same, .nil⟩) (fun D j H7 hP => (hya.up hP.1).sq) (fun D j x H7 hD hx hP => ?_) (fun D H7 hD hP => ?_)
          · obtain ⟨e7, zs, g7, pz⟩ := hP
            obtain ⟨x', hx', pp, rfl, hpp⟩ := hys.get hx
            have jl := (List.getElem?_eq_some_iff.mp hx).1
            have hpp7 := hpp.tu.up e7
            walk_at "rd"
            refine r_gtup hpp7.sq rfl ?_
            walk_at "rd"
            refine ⟨rfl, ?_⟩
            walk_at "rd"
            refine r_small nsz fun p8 hp8 => ?_
            obtain ⟨H8, k8, e8, g8⟩ := new1 hp8 (.tup [V.int (i : Nat), V.int (x'.1 : Nat), V.int (x'.2 : Nat)])
            rw [← k8]
            have zl : zs.length ≤ 701 := by rw [pz.len, List.length_map, List.length_take]; omega
            have tc : Tk H8 (upd H8 D (.lst (zs ++ [.ref p8]))) := .put (e8 _ _ g7)
            refine ⟨zs, e8 _ _ g7, by rw [sizeLine_eq]; omega, Same.mut (e7.trans e8) hD, _, upd_same, ?_⟩
            rw [List.take_succ, hx']
            have hT : TrV K (upd H8 D (.lst (zs ++ [.ref p8]))) (.ref p8) (i, x'.1, x'.2) := imm (R := TrV K) tc ⟨p8, rfl, .inl g8⟩
            have := (p2_imm tc (p2_imm (.ex e8) pz)).snoc hT
            rw [Option.toList_some, List.map_append]
            exact this
          · obtain ⟨e7, zs, g7, pz⟩ := hP
            rw [hys.len, List.take_length] at pz
            have zl : zs.length ≤ 701 := by rw [pz.len, List.length_map, pcs_len]; have := tt_le (b := b) (z := z) n0; have := lz z (List.mem_of_getElem? hz); omega
            have xl : xs.length ≤ 701 * i := by rw [px.len]; exact sl
            have gf7 := e7 _ _ (e5 _ _ gf)
            have tc : Tk H7 (upd H7 f (.lst (xs ++ zs))) := .put gf7
            refine ⟨f, D, xs, zs, rfl, rfl, gf7, g7, by rw [sizeLine_eq]; omega, ?_⟩
            walk_at "rd"
            refine ⟨_, _, _, _, _, rfl, Same.mut ((e.trans e5).trans e7) hf, ((t.trans (.ex e5)).trans (.ex e7)).trans tc, upd_same, ?_⟩
            rw [sh_out hz hin]
            exact p2_app (p2_imm tc (p2_imm (.ex e7) (p2_imm (.ex e5) px))) (p2_imm tc pz)
      · obtain ⟨y2, y5, y6, y7, xs, rfl, e, t, gf, px⟩ := hP
        rw [hlv.len] at px
        walk_at "rd"
        refine r_tupLV gf px fun p6 H6 hp6 e6 hT => ?_
        exact q _ _ ((e2.trans e).trans e6) hT
end
end K63

namespace K63
open PySem PySem.Spec PyProof.Rows L2 Dk Q61 Wd
/-- one step of a reading -/
local macro_rules | `(tactic| walk_at "rd1") => `(tactic| first
  | ((with_reducible refine r_var (v := ?rv) ?rh ?_); (case rh => rfl))
  | with_reducible refine r_c ?_
  | with_reducible refine r_seq ?_
  | with_reducible refine r_asg ?_
  | with_reducible refine r_par ?_
  | with_reducible refine r_gname ?_
  | with_reducible refine r_op ?_
  | with_reducible refine r_forLo ?_
  | with_reducible refine r_forTo ?_
  | with_reducible refine r_forSo ?_
  | with_reducible refine r_forRo ?_
  | with_reducible refine r_forRvo ?_
  | with_reducible refine r_forZo ?_
  | with_reducible refine r_revS ?_
  | with_reducible refine r_lcRo ?_
  | with_reducible refine r_lcLo ?_
  | with_reducible refine r_yes ?_
  | with_reducible refine r_callK0 ?_
  | with_reducible refine r_break ?_
  | with_reducible refine r_continue ?_
  | with_reducible refine r_forR2o ?_
  | with_reducible refine r_forEo ?_
  | with_reducible refine r_forESo ?_
  | with_reducible refine r_xfo ?_
  | with_reducible refine r_noP ?_
  | with_reducible refine r_part ?_
  | with_reducible refine r_pI ?_
  | with_reducible refine r_gcons ?_
  | with_reducible refine r_gnil ?_
  | with_reducible refine r_mkO ?_
  | with_reducible refine r_un ?_
  | with_reducible refine r_addI ?_
  | with_reducible refine r_I0 ?_
  | with_reducible refine r_U ?_
  | with_reducible refine r_cons ?_
  | with_reducible refine r_nil ?_
  | with_reducible refine r_CB ?_
  | with_reducible refine r_call ?_
  | with_reducible refine r_callS ?_
  | with_reducible refine r_int ?_
  | with_reducible refine r_max ?_
  | with_reducible refine r_min ?_
  | with_reducible refine r_test ?_
  | with_reducible refine r_B ?_
  | with_reducible refine r_blv ?_
  | with_reducible refine r_and ?_
  | with_reducible refine r_or ?_
  | with_reducible refine r_not ?_
  | with_reducible refine r_andV ?_
  | with_reducible refine r_orV ?_
  | with_reducible refine r_notV ?_
  | with_reducible refine r_ifE ?_
  | with_reducible refine r_ifS ?_
  | with_reducible refine r_ret ?_
  | with_reducible refine r_retN ?_
  | with_reducible refine r_drop ?_
  | with_reducible refine r_next ?_
  | with_reducible refine r_sl ?_
  | with_reducible refine r_gsub ?_
  | with_reducible refine r_bm ?_
  | with_reducible refine r_bm0 ?_
  | with_reducible refine r_tup ?_
  | with_reducible refine r_lst ?_
  | with_reducible refine r_isN ?_
  | with_reducible refine r_notN ?_
  | with_reducible refine r_chain ?_
  | with_reducible refine r_callK ?_
  | with_reducible refine r_isB ?_
  | with_reducible refine r_lcEio ?_
  | with_reducible refine r_forEi ?_
  | with_reducible refine r_lcTo ?_
  | with_reducible refine r_lcSo ?_
  | with_reducible refine r_m1 ?_
  | with_reducible refine r_dget ?_
  | with_reducible refine r_din ?_
  | with_reducible refine r_dnotin ?_
  | with_reducible refine Tc.r_inC ?_
  | with_reducible refine Tc.r_getC ?_
  | with_reducible refine r_starC ?_
  | with_reducible refine r_callKS ?_
  | with_reducible refine Dk.r_fld ?_
  | with_reducible refine Dk.r_forNo ?_
  | with_reducible refine Dk.r_lcR2o ?_
  | with_reducible refine Dk.r_dcTo ?_
  | with_reducible refine Dk.r_sfld ?_
  | with_reducible refine Dk.r_meth ?_
  | with_reducible refine Dk.r_methK ?_
  | with_reducible refine Dk.r_methT ?_
  | with_reducible refine Dk.r_makeK ?_
  | with_reducible refine r_itt ?_
  | with_reducible refine r_iff ?_
  | with_reducible refine r_ittN ?_
  | with_reducible refine r_iffN ?_
  | ((with_reducible refine r_ittD ?rh ?_); (case rh => rfl))
  | ((with_reducible refine r_iffD ?rh ?_); (case rh => rfl))
  | ((with_reducible refine r_modP ?rh ?_); (case rh => decide))
  | ((with_reducible refine r_eq ?rh ?_); (case rh => rfl))
  | ((with_reducible refine r_eqP ?rh ?_); (case rh => rfl))
  | ((with_reducible refine r_ne ?rh ?_); (case rh => rfl)))
local macro_rules | `(tactic| walk_at "rd") => `(tactic| repeat walk_at "rd1")
local macro_rules | `(tactic| walk_at "isi") => `(tactic| first | refine r_isi (b := true) (by assumption) (by decide +kernel) ?_ | refine r_isi (b := false) (by assumption) (by decide +kernel) ?_)
local macro_rules | `(tactic| walk_at "rs1") => `(tactic| first
  | with_reducible refine r_seq ?_
  | with_reducible refine r_asg ?_
  | with_reducible refine r_gname ?_
  | with_reducible refine r_ret ?_)
local macro_rules | `(tactic| walk_at "rs") => `(tactic| repeat walk_at "rs1")

/-- no folds: no line is hidden -/
def spNoLines (K : PySem.W.Frag) : Sp := fun vs H Q _ => ∃ (z : Str) (f : Addr), vs = [.str z, .ref f] ∧ Tu K H f [] ∧ ∀ v H', Ex H H' → TupV K IntV H' v [] → Q v H'
/-- no picks: no stretch -/
def spNoStretch (K : PySem.W.Frag) : Sp := fun vs H Q _ => ∃ l : Addr, vs = [.ref l] ∧ SqL K H l [] ∧ ∀ v H', Ex H H' → TupV K IntV H' v [] → Q v H'
def spRowsOf (K : PySem.W.Frag) : Sp := fun vs H Q _ => ∃ z : Str, vs = [.str z] ∧ z.length ≤ 700 ∧ ∀ v H', Ex H H' → TupV K StrV H' v (PySem.Txt.split z "\n") → Q v H'
section
variable {P : Program} {w : World} {K : PySem.W.Frag} {mg : Str → Option Value} {base : Heap}
theorem ok_rows_of (T : Txt K mg) : FnOk P w K mg base CX0 1 T.a_rows_of T.d_rows_of ["text"] (spRowsOf K) := by
  refine T.F_rows_of.ok sc_rows_of (fun vs H Q E h => ?_) (fun cdv A outer s H vs Q E hr h => ?_)
  · obtain ⟨z, rfl, _⟩ := h
    rfl
  · obtain ⟨z, rfl, hz, q⟩ := h
    refine ⟨_, (pss_one (ps_ret (pe_callTy call_tupU (by rfl) T.n_tuple (by decide +kernel) (pa_cons (pe_bm PySem.F.plainAttrs_str PySem.F.slot_str_split PySem.F.type_str_split mt_split (pv 0) (pa_cons pe_str pa_nil)) pa_nil)))), ?_⟩
    walk_at "rd"
    refine r_tyS ?_
    walk_at "rd"
    refine ⟨z, _, rfl, rfl, by decide, by rw [sizeLine_eq]; omega, fun R hR => ?_⟩
    walk_at "rd"
    refine r_tupLV upd_same (p2_str _) fun p6 H6 hp6 e6 hT => ?_
    exact q _ _ ((Same.new (Same.refl H) hR).trans e6) hT
end
end K63

namespace Dk
open PySem PySem.Spec PyProof.Rows L2
theorem k_leT {X : Cx} {K : PySem.W.Frag} (h : X.K = K) (hu : X.A.units + 64 < cLine) : OpR X (compareOp .LtE) (rLeT K) := h ▸ op_leT (by omega)
theorem u_leT {X : Cx} (hu : X.A.units + 64 < cLine) : OpR X (compareOp .LtE) (rLeT X.K) := op_leT (by omega)
theorem r_lcR2o {ta : TA} {g : TG} {tt : TT} {te : TE} {vs : List Nat} {σ : L2.St} {H : Hp} {Q : VK} (h : ta σ H fun us H1 => ∃ i j : Int, us = [.int i, .int j] ∧ (-(2 ^ 62) ≤ i ∧ i < 2 ^ 62 ∧ -(2 ^ 62) ≤ j ∧ j < 2 ^ 62) ∧ ∀ D, H1 D = none → ∃ W : Nat → Nat → Hp → Prop, (∃ m, W 0 m (upd H1 D (.lst []))) ∧ ∀ k m H, W k m H →
  ((Itr i (j - i).toNat).stop k H ∧ Q (.ref D) H) ∨ ((Itr i (j - i).toNat).go k H ∧ ∃ Nx : Hp → Prop, (∀ H', Nx H' → ∃ m', m' < m ∧ W (k + 1) m' H') ∧ ∀ x H', (Itr i (j - i).toNat).yld k H x H' → g x (wipe σ vs) H' fun σ2 H2 => wipe σ2 vs = wipe σ vs ∧ tt σ2 H2 fun b H3 =>
    if b = true then te σ2 H3 fun y H4 => ∃ acc, H4 D = some (.lst acc) ∧ acc.length < sizeLine ∧ Nx (upd H4 D (.lst (acc ++ [y]))) else Nx H3)) : tLc (iRng2 ta) g tt te vs σ H Q := h
/-- two pairs of numbers -/
theorem r_leP {K : PySem.W.Frag} {H : Hp} {Q : VK} {p q : Addr} {a b c d : Nat} (hp : SqT K H p [.int (a : Nat), .int (b : Nat)]) (hq : SqT K H q [.int (c : Nat), .int (d : Nat)]) (k : Q (.bl (decide (a < c ∨ (a = c ∧ b ≤ d)))) H) : rLeT K (.ref p) (.ref q) H Q := by
  refine ⟨p, q, [(a : Int), (b : Int)], [(c : Int), (d : Int)], rfl, rfl, hp, hq, ?_⟩
  have e : Ob.lexAt (fun j => decide ([(a : Int), (b : Int)].getD j 0 = [(c : Int), (d : Int)].getD j 0)) (fun j => decide ([(a : Int), (b : Int)].getD j 0 ≤ [(c : Int), (d : Int)].getD j 0)) (decide (2 ≤ 2)) 0 2 = decide (a < c ∨ (a = c ∧ b ≤ d)) := by
    show (if decide ((a : Int) = (c : Int)) = true then (if decide ((b : Int) = (d : Int)) = true then decide (2 ≤ 2) else decide ((b : Int) ≤ (d : Int))) else decide ((a : Int) ≤ (c : Int))) = _
    by_cases h1 : a = c
    · subst h1
      rw [if_pos (decide_eq_true rfl)]
      by_cases h2 : b = d
      · subst h2
        rw [if_pos (decide_eq_true rfl)]
        exact (decide_eq_true (Nat.le_refl 2)).trans (decide_eq_true (.inr ⟨rfl, Nat.le_refl _⟩)).symm
      · rw [if_neg (by rw [decide_eq_true_iff]; omega)]
        exact decide_eq_decide.mpr (by omega)
    · rw [if_neg (by rw [decide_eq_true_iff]; omega)]
      exact decide_eq_decide.mpr (by omega)
  show Q (.bl (Ob.lexAt _ _ _ 0 2)) H
  exact e ▸ k
end Dk
namespace K63
open PySem PySem.Spec PyProof.Rows L2 Dk Q61 Wd
/-- one step of a reading -/
local macro_rules | `(tactic| walk_at "rd1") => `(tactic| first
  | ((with_reducible refine r_var (v := ?rv) ?rh ?_); (case rh => rfl))
  | with_reducible refine r_c ?_
  | with_reducible refine r_seq ?_
  | with_reducible refine r_asg ?_
  | with_reducible refine r_par ?_
  | with_reducible refine r_gname ?_
  | with_reducible refine r_op ?_
  | with_reducible refine r_forLo ?_
  | with_reducible refine r_forTo ?_
  | with_reducible refine r_forSo ?_
  | with_reducible refine r_forRo ?_
  | with_reducible refine r_forRvo ?_
  | with_reducible refine r_forZo ?_
  | with_reducible refine r_revS ?_
  | with_reducible refine r_lcRo ?_
  | with_reducible refine r_lcLo ?_
  | with_reducible refine r_yes ?_
  | with_reducible refine r_callK0 ?_
  | with_reducible refine r_break ?_
  | with_reducible refine r_continue ?_
  | with_reducible refine r_forR2o ?_
  | with_reducible refine r_forEo ?_
  | with_reducible refine r_forESo ?_
  | with_reducible refine r_xfo ?_
  | with_reducible refine r_noP ?_
  | with_reducible refine r_part ?_
  | with_reducible refine r_pI ?_
  | with_reducible refine r_gcons ?_
  | with_reducible refine r_gnil ?_
  | with_reducible refine r_mkO ?_
  | with_reducible refine r_un ?_
  | with_reducible refine r_addI ?_
  | with_reducible refine r_I0 ?_
  | with_reducible refine r_U ?_
  | with_reducible refine r_cons ?_
  | with_reducible refine r_nil ?_
  | with_reducible refine r_CB ?_
  | with_reducible refine r_call ?_
  | with_reducible refine r_callS ?_
  | with_reducible refine r_int ?_
  | with_reducible refine r_max ?_
  | with_reducible refine r_min ?_
  | with_reducible refine r_test ?_
  | with_reducible refine r_B ?_
  | with_reducible refine r_blv ?_
  | with_reducible refine r_and ?_
  | with_reducible refine r_or ?_
  | with_reducible refine r_not ?_
  | with_reducible refine r_andV ?_
  | with_reducible refine r_orV ?_
  | with_reducible refine r_notV ?_
  | with_reducible refine r_ifE ?_
  | with_reducible refine r_ifS ?_
  | with_reducible refine r_ret ?_
  | with_reducible refine r_retN ?_
  | with_reducible refine r_drop ?_
  | with_reducible refine r_next ?_
  | with_reducible refine r_sl ?_
  | with_reducible refine r_gsub ?_
  | with_reducible refine r_bm ?_
  | with_reducible refine r_bm0 ?_
  | with_reducible refine r_tup ?_
  | with_reducible refine r_lst ?_
  | with_reducible refine r_isN ?_
  | with_reducible refine r_notN ?_
  | with_reducible refine r_chain ?_
  | with_reducible refine r_callK ?_
  | with_reducible refine r_isB ?_
  | with_reducible refine r_lcEio ?_
  | with_reducible refine r_forEi ?_
  | with_reducible refine r_lcTo ?_
  | with_reducible refine r_lcSo ?_
  | with_reducible refine r_m1 ?_
  | with_reducible refine r_dget ?_
  | with_reducible refine r_din ?_
  | with_reducible refine r_dnotin ?_
  | with_reducible refine Tc.r_inC ?_
  | with_reducible refine Tc.r_getC ?_
  | with_reducible refine r_starC ?_
  | with_reducible refine r_callKS ?_
  | with_reducible refine Dk.r_fld ?_
  | with_reducible refine Dk.r_forNo ?_
  | with_reducible refine Dk.r_dcTo ?_
  | with_reducible refine Dk.r_sfld ?_
  | with_reducible refine Dk.r_meth ?_
  | with_reducible refine Dk.r_methK ?_
  | with_reducible refine Dk.r_methT ?_
  | with_reducible refine Dk.r_makeK ?_
  | with_reducible refine r_itt ?_
  | with_reducible refine r_iff ?_
  | with_reducible refine r_ittN ?_
  | with_reducible refine r_iffN ?_
  | ((with_reducible refine r_ittD ?rh ?_); (case rh => rfl))
  | ((with_reducible refine r_iffD ?rh ?_); (case rh => rfl))
  | ((with_reducible refine r_modP ?rh ?_); (case rh => decide))
  | ((with_reducible refine r_eq ?rh ?_); (case rh => rfl))
  | ((with_reducible refine r_eqP ?rh ?_); (case rh => rfl))
  | ((with_reducible refine r_ne ?rh ?_); (case rh => rfl)))
local macro_rules | `(tactic| walk_at "rd") => `(tactic| repeat walk_at "rd1")
local macro_rules | `(tactic| walk_at "isi") => `(tactic| first | refine r_isi (b := true) (by assumption) (by decide +kernel) ?_ | refine r_isi (b := false) (by assumption) (by decide +kernel) ?_)
local macro_rules | `(tactic| walk_at "rs1") => `(tactic| first
  | with_reducible refine r_seq ?_
  | with_reducible refine r_asg ?_
  | with_reducible refine r_gname ?_
  | with_reducible refine r_ret ?_)
local macro_rules | `(tactic| walk_at "rs") => `(tactic| repeat walk_at "rs1")

/-! ### rows in order -/
def lx (l c : Nat) (x : Tri) : Prop := x.1 < l ∨ (x.1 = l ∧ x.2.1 ≤ c)
instance {l c : Nat} {x : Tri} : Decidable (lx l c x) := inferInstanceAs (Decidable (_ ∨ (_ ∧ _)))
def ls2 (x y : Tri) : Prop := x.1 < y.1 ∨ (x.1 = y.1 ∧ x.2.1 < y.2.1)
theorem lx_down {l c : Nat} {x y : Tri} (h : ls2 x y) (g : lx l c y) : lx l c x := by
  unfold ls2 at h; unfold lx at *; omega
/-- m is the last row not behind (l, c) -/
structure At (S : List Tri) (l c m : Nat) : Prop where
  lt : m < S.length
  le : ∀ x, S[m]? = some x → lx l c x
  no : ∀ j x, m < j → S[j]? = some x → ¬ lx l c x
theorem At.filt {S : List Tri} {l c m : Nat} (h : At S l c m) (hS : S.Pairwise ls2) : (S.filter fun x => decide (lx l c x)).length = m + 1 := by
  have e : S = S.take (m + 1) ++ S.drop (m + 1) := (List.take_append_drop _ _).symm
  rw [e, List.filter_append, List.filter_eq_self.mpr, List.filter_eq_nil_iff.mpr]
  · rw [List.append_nil, List.length_take]
    have := h.lt
    omega
  · intro x hx q
    obtain ⟨j, hj, rfl⟩ := List.mem_iff_getElem.mp hx
    rw [List.getElem_drop] at q
    exact h.no (m + 1 + j) _ (by omega) (List.getElem?_eq_getElem _) (of_decide_eq_true q)
  · intro x hx
    obtain ⟨j, hj, rfl⟩ := List.mem_iff_getElem.mp hx
    rw [List.length_take] at hj
    rw [List.getElem_take]
    have hm := h.le _ (List.getElem?_eq_getElem h.lt)
    rcases Nat.lt_or_ge j m with g | g
    · exact decide_eq_true (lx_down (List.pairwise_iff_getElem.mp hS j m (by omega) h.lt g) hm)
    · have : j = m := by omega
      subst this
      exact decide_eq_true hm
theorem it_lt {sp : Nat → Bool} {n : Nat} {b : Bool} (n0 : 1 ≤ n) {i j : Nat} (h : i < j) : it sp n b i < it sp n b j := by
  induction j with
  | zero => omega
  | succ j ih =>
    have h1 : it sp n b j < it sp n b (j + 1) := gr_lt n0 _
    rcases Nat.lt_or_ge i j with g | g
    · exact Nat.lt_trans (ih g) h1
    · rw [show i = j by omega]; exact h1
theorem pcs_get {n : Nat} {b : Bool} {z : Str} {k : Nat} {x : Nat × Nat} (h : (pcs n b z)[k]? = some x) : x.1 = it (spc z) n b k := by
  unfold pcs pcl at h
  rw [List.getElem?_map] at h
  obtain ⟨k', hk, rfl⟩ := Option.map_eq_some_iff.mp h
  obtain ⟨hl, e⟩ := List.getElem?_eq_some_iff.mp hk
  rw [List.getElem_range] at e
  rw [e]
theorem sh_fst {n : Nat} {b : Bool} {ls : List Str} {aw : List Nat} {x : Tri} : ∀ i, x ∈ sh n b ls aw i → x.1 < i ∧ x.1 ∉ aw
  | 0, h => nomatch h
  | i + 1, h => by
    rw [sh] at h
    rcases List.mem_append.mp h with h | h
    · have := sh_fst i h; exact ⟨by omega, this.2⟩
    · cases e : ls[i]? with
      | none => rw [e] at h; nomatch h
      | some z =>
        rw [e] at h
        dsimp only at h
        split at h
        · nomatch h
        · rename_i hn
          obtain ⟨p, _, rfl⟩ := List.mem_map.mp h
          exact ⟨Nat.lt_succ_self _, hn⟩
theorem sh_sorted {n : Nat} {b : Bool} {ls : List Str} {aw : List Nat} (n0 : 1 ≤ n) : ∀ i, (sh n b ls aw i).Pairwise ls2
  | 0 => .nil
  | i + 1 => by
    rw [sh]
    refine List.pairwise_append.mpr ⟨sh_sorted n0 i, ?_, fun x hx y hy => ?_⟩
    · cases e : ls[i]? with
      | none => exact .nil
      | some z =>
        dsimp only
        split
        · exact .nil
        · rw [List.pairwise_map, List.pairwise_iff_getElem]
          intro j k hj hk h
          have e1 := pcs_get (List.getElem?_eq_getElem hj)
          have e2 := pcs_get (List.getElem?_eq_getElem hk)
          refine .inr ⟨rfl, ?_⟩
          show ((pcs n b z)[j]).1 < ((pcs n b z)[k]).1
          rw [e1, e2]
          exact it_lt n0 h
    · have h1 := (sh_fst i hx).1
      cases e : ls[i]? with
      | none => rw [e] at hy; nomatch hy
      | some z =>
        rw [e] at hy
        dsimp only at hy
        split at hy
        · nomatch hy
        · obtain ⟨p, _, rfl⟩ := List.mem_map.mp hy
          exact .inl h1
theorem pcs_zero {n : Nat} {b : Bool} {z : Str} : ∃ e, (pcs n b z)[0]? = some (0, e) := by
  have hl : 0 < (pcs n b z).length := by rw [pcs_len]; omega
  have h := List.getElem?_eq_getElem hl
  have e := pcs_get h
  exact ⟨((pcs n b z)[0]).2, by rw [h]; exact congrArg some (Prod.ext e rfl)⟩
/-- each row that is shown begins at 0 -/
theorem sh_has {n : Nat} {b : Bool} {ls : List Str} {aw : List Nat} {a : Nat} (h1 : a < ls.length) (h2 : a ∉ aw) : ∀ i, a < i → ∃ e, ((a, 0, e) : Tri) ∈ sh n b ls aw i
  | 0, h => absurd h (by omega)
  | i + 1, h => by
    rcases Nat.lt_or_ge a i with g | g
    · obtain ⟨e, he⟩ := sh_has h1 h2 i g
      exact ⟨e, by rw [sh]; exact List.mem_append_left _ he⟩
    · have ea : a = i := by omega
      subst ea
      obtain ⟨e, he⟩ := pcs_zero (n := n) (b := b) (z := ls[a])
      rw [sh_out (List.getElem?_eq_getElem h1) h2]
      exact ⟨e, List.mem_append_right _ (List.mem_map.mpr ⟨(0, e), List.mem_of_getElem? he, rfl⟩)⟩
/-- the first row of the screen -/
theorem sh_zero {n : Nat} {b : Bool} {ls : List Str} {aw : List Nat} (n0 : 1 ≤ n) (h1 : 0 < ls.length) (h2 : 0 ∉ aw) : ∃ e, (sh n b ls aw ls.length)[0]? = some (0, 0, e) := by
  obtain ⟨e, he⟩ := sh_has (n := n) (b := b) h1 h2 ls.length h1
  obtain ⟨j, hj, ej⟩ := List.mem_iff_getElem.mp he
  rcases Nat.eq_zero_or_pos j with g | g
  · subst g
    exact ⟨e, by rw [List.getElem?_eq_getElem hj, ej]⟩
  · have := List.pairwise_iff_getElem.mp (sh_sorted (n := n) (b := b) (ls := ls) (aw := aw) n0 ls.length) 0 j (by omega) hj g
    rw [ej] at this
    rcases this with h | ⟨_, h⟩
    · exact absurd h (Nat.not_lt_zero _)
    · exact absurd h (Nat.not_lt_zero _)
/-- a shown line's last row not behind a place is its own -/
theorem At.own {n : Nat} {b : Bool} {ls : List Str} {aw : List Nat} {a c m : Nat} {x : Tri} (n0 : 1 ≤ n) (h : At (sh n b ls aw ls.length) a c m) (hx : (sh n b ls aw ls.length)[m]? = some x) (h1 : a < ls.length) : x.1 = a ↔ a ∉ aw := by
  constructor
  · intro e; rw [← e]; exact (sh_fst _ (List.mem_of_getElem? hx)).2
  · intro ha
    obtain ⟨e, he⟩ := sh_has (n := n) (b := b) h1 ha ls.length h1
    obtain ⟨j, hj, ej⟩ := List.mem_iff_getElem.mp he
    have hjm : j ≤ m := by
      rcases Nat.lt_or_ge m j with g | g
      · exact absurd (show lx a c (a, 0, e) from .inr ⟨rfl, Nat.zero_le _⟩) (by rw [← ej]; exact h.no j _ g (List.getElem?_eq_getElem hj))
      · exact g
    have hle := h.le _ hx
    obtain ⟨hm, em⟩ := List.getElem?_eq_some_iff.mp hx
    rcases Nat.lt_or_ge j m with g | g
    · have := List.pairwise_iff_getElem.mp (sh_sorted (n := n) (b := b) (ls := ls) (aw := aw) n0 ls.length) j m hj hm g
      rw [ej, em] at this
      have t1 : a ≤ x.1 := this.elim Nat.le_of_lt fun z => Nat.le_of_eq z.1
      have t2 : x.1 ≤ a := hle.elim Nat.le_of_lt fun z => Nat.le_of_eq z.1
      omega
    · have : j = m := by omega
      subst this
      rw [← em, ej]
def spAt (K : PySem.W.Frag) : Sp := fun vs H Q _ => ∃ (v : V) (l c : Nat) (S : List Tri), vs = [v, .int (l : Nat), .int (c : Nat)] ∧ TupV K (TrV K) H v S ∧ S.Pairwise ls2 ∧ S.length ≤ 100000 ∧ (∃ e, S[0]? = some (0, 0, e)) ∧ ∀ m H', Ex H H' → At S l c m → Q (.int (m : Nat)) H'
section
variable {P : Program} {w : World} {K : PySem.W.Frag} {mg : Str → Option Value} {base : Heap}
theorem ok_row_at (T : Txt K mg) : FnOk P w K mg base CX0 1 T.a_row_at T.d_row_at ["screen_rows", "line", "column"] (spAt K) := by
  refine T.F_row_at.ok sc_row_at (fun vs H Q E h => ?_) (fun cdv A outer s H vs Q E hr h => ?_)
  · obtain ⟨v, l, c, S, rfl, _⟩ := h
    rfl
  · obtain ⟨v, l, c, S, rfl, hv, hS, sl, ⟨e0, h0⟩, q⟩ := h
    have s0 : 0 < S.length := (List.getElem?_eq_some_iff.mp h0).1
    refine ⟨_, (pss_cons (ps_set (i := 3) sc_row_at.nd rfl (Or.inl rfl) pe_int)
        (pss_cons (ps_set (i := 4) sc_row_at.nd rfl (Or.inl rfl) (pe_callB call_lenU (by rfl) T.n_len (by decide +kernel) (pa_cons (pv 0) pa_nil)))
        (pss_cons (ps_while PassesOwn.never (pt_cmpR op_gt (pe_op op_sub (pv 4) (pv 3)) pe_int (nomark _)) (pss_cons (ps_set (i := 5) sc_row_at.nd rfl (Or.inl rfl) (pe_op op_divW (pe_op op_addU (pv 3) (pv 4)) pe_int))
        (pss_one (ps_if (pt_cmpR (Dk.u_leT hr.units) (pe_slice sl_U (pe_ix ix_seq (pv 0) (pv 5) (fun _ _ => rfl)) po_none (po_some pe_int)) (pe_tup (pa_cons (pv 1) (pa_cons (pv 2) pa_nil))) (nomark _)) (pss_one (ps_set (i := 3) sc_row_at.nd rfl (Or.inl rfl) (pv 5))) (pss_one (ps_set (i := 4) sc_row_at.nd rfl (Or.inl rfl) (pv 5)))))))
        (pss_one (ps_ret (pv 3)))))), ?_⟩
    walk_at "rd"
    refine r_lenTV hv ?_
    walk_at "rd"
    refine ⟨fun k σ H' => ∃ lo hi y5, σ = [some v, some (.int (l : Nat)), some (.int (c : Nat)), some (.int (lo : Nat)), some (.int (hi : Nat)), y5] ∧ Ex H H' ∧ lo < hi ∧ hi ≤ S.length ∧ (∀ x, S[lo]? = some x → lx l c x) ∧ (∀ x, S[hi]? = some x → ¬ lx l c x) ∧ k = hi - lo, ⟨_, 0, S.length, none, rfl, Same.refl H, s0, Nat.le_refl _, fun x hx => ?_, fun x hx => absurd (List.getElem?_eq_some_iff.mp hx).1 (by omega), rfl⟩, fun k σ H' hP => ?_⟩
    · rw [h0] at hx
      obtain rfl := Option.some.inj hx
      show 0 < l ∨ _
      rcases Nat.eq_zero_or_pos l with g | g
      · exact .inr ⟨g.symm, Nat.zero_le _⟩
      · exact .inl g
    · obtain ⟨lo, hi, y5, rfl, e, h1, h2, h3, h4, rfl⟩ := hP
      walk_at "rd"
      refine r_ite (fun g => ?_) (fun g => ?_)
      · refine ⟨fun σ' H2 => ∃ k, k < hi - lo ∧ ∃ lo hi y5, σ' = [some v, some (.int (l : Nat)), some (.int (c : Nat)), some (.int (lo : Nat)), some (.int (hi : Nat)), y5] ∧ Ex H H2 ∧ lo < hi ∧ hi ≤ S.length ∧ (∀ x, S[lo]? = some x → lx l c x) ∧ (∀ x, S[hi]? = some x → ¬ lx l c x) ∧ k = hi - lo, fun σ' H2 h => h, ?_⟩
        walk_at "rd"
        obtain ⟨md, hmd⟩ : ∃ md, md = (lo + hi) / 2 := ⟨_, rfl⟩
        refine r_divW (wide_div (b := 17) (by decide) (by decide) (by decide) (by decide)) ?_
        rw [show ((lo : Int) + (hi : Int)) / 2 = (md : Nat) by omega]
        have m1 : lo < md := by omega
        have m2 : md < hi := by omega
        have hx := List.getElem?_eq_getElem (show md < S.length by omega)
        walk_at "rd"
        refine r_ixTV (imm (R := TupV K (TrV K)) (.ex e) hv) hx fun u hu => ?_
        obtain ⟨p, rfl, hp⟩ := hu
        walk_at "rd"
        refine r_slT hp.sq (fun z => absurd z (by decide : ¬ 3 ≤ 2)) fun p2 hp2 => ?_
        obtain ⟨H5, k5, e5, h5⟩ := new1 hp2 (.tup [.int ((S[md]).1 : Nat), .int ((S[md]).2.1 : Nat)])
        rw [show ([V.int ((S[md]).1 : Nat), .int ((S[md]).2.1 : Nat), .int ((S[md]).2.2 : Nat)] : List V).take 2 = [V.int ((S[md]).1 : Nat), .int ((S[md]).2.1 : Nat)] from rfl, ← k5]
        walk_at "rd"
        refine r_small nsz fun p3 hp3 => ?_
        obtain ⟨H6, k6, e6, h6⟩ := new1 hp3 (.tup [.int (l : Nat), .int (c : Nat)])
        rw [← k6]
        walk_at "rd"
        refine r_leP (sqT (e6 _ _ h5)) (sqT h6) ?_
        have e7 := (e.trans e5).trans e6
        by_cases hl : lx l c S[md]
        · rw [decide_eq_true (show (S[md]).1 < l ∨ (S[md]).1 = l ∧ (S[md]).2.1 ≤ c from hl)]
          walk_at "rd"
          refine ⟨hi - md, by omega, md, hi, _, rfl, e7, m2, h2, fun x hx' => ?_, h4, rfl⟩
          rw [hx] at hx'
          rw [← Option.some.inj hx']; exact hl
        · rw [decide_eq_false (show ¬ ((S[md]).1 < l ∨ (S[md]).1 = l ∧ (S[md]).2.1 ≤ c) from hl)]
          walk_at "rd"
          refine ⟨md - lo, by omega, lo, md, _, rfl, e7, m1, by omega, h3, fun x hx' => ?_, rfl⟩
          rw [hx] at hx'
          rw [← Option.some.inj hx']; exact hl
      · walk_at "rd"
        have eh : hi = lo + 1 := by omega
        subst eh
        refine q lo _ e ⟨by omega, h3, fun j x hj hx hl => ?_⟩
        have jl := (List.getElem?_eq_some_iff.mp hx).1
        rcases Nat.lt_or_ge (lo + 1) j with g2 | g2
        · have g3 : lo + 1 < S.length := by omega
          have := List.pairwise_iff_getElem.mp hS (lo + 1) j g3 jl g2
          rw [(List.getElem?_eq_some_iff.mp hx).2] at this
          exact h4 _ (List.getElem?_eq_getElem g3) (lx_down this hl)
        · have : j = lo + 1 := by omega
          subst this
          exact h4 x hx hl
end
end K63

/-! how often a line break stands ahead of a place (out of k48) -/
namespace Ct
open PySem PySem.Spec PyProof.Rows L2 Dk
/-- how often one sign stands ahead of a place -/
theorem occ1 (z : Str) (c hi limit : Nat) : ∀ (l : List Nat) (st : Array Nat × Nat), l.Pairwise (· < ·) → (∀ i ∈ l, st.2 ≤ i) → st.1.size + l.length ≤ limit →
    (forIn l st (PySem.StrLaws.occBody z ⟨#[c]⟩ hi limit)).run.fst.size = st.1.size + (l.filter fun i => decide (i < hi) && decide ((cs z)[i]? = some c)).length
  | [], st, _, _, _ => rfl
  | a :: l, st, pw, lo, hl => by
    obtain ⟨p1, p2⟩ := List.pairwise_cons.mp pw
    have h0 := lo a (List.mem_cons_self ..)
    rw [List.length_cons] at hl
    rw [List.forIn_cons]
    unfold PySem.StrLaws.occBody
    have e1 : (a + (⟨#[c]⟩ : Str).length ≤ hi) ↔ a < hi := by
      show a + 1 ≤ hi ↔ _
      omega
    have e2 : (Builtin.Str.subAt z ⟨#[c]⟩ a = true) ↔ (cs z)[a]? = some c := by rw [subAt1, decide_eq_true_iff]
    by_cases h : a < hi ∧ (cs z)[a]? = some c
    · rw [if_pos ⟨⟨⟨by omega, h0⟩, e1.mpr h.1⟩, e2.mpr h.2⟩]
      have ih := occ1 z c hi limit l (st.1.push a, a + 1) p2 (fun i hi => p1 i hi) (by show (st.1.push a).size + _ ≤ _; rw [Array.size_push]; omega)
      rw [List.filter_cons_of_pos (by rw [decide_eq_true h.1, decide_eq_true h.2]; rfl), List.length_cons]
      refine Eq.trans ih ?_
      show (st.1.push a).size + _ = _
      rw [Array.size_push]
      omega
    · rw [if_neg (fun g => h ⟨e1.mp g.1.2, e2.mp g.2⟩)]
      have ih := occ1 z c hi limit l st p2 (fun i hi => Nat.le_trans (lo a (List.mem_cons_self ..)) (Nat.le_of_lt (p1 i hi))) (by omega)
      rw [List.filter_cons_of_neg (fun g => h (by
        rw [Bool.and_eq_true, decide_eq_true_iff, decide_eq_true_iff] at g
        exact g))]
      exact ih
theorem range_count (l : List Nat) (c : Nat) : ∀ b, b ≤ l.length → ((List.range' 0 b).filter fun i => decide (l[i]? = some c)).length = ((l.take b).filter fun x => decide (x = c)).length
  | 0, _ => by rw [List.take_zero]; rfl
  | b + 1, hb => by
    have ih := range_count l c b (by omega)
    obtain ⟨x, hx⟩ : ∃ x, l[b]? = some x := ⟨_, List.getElem?_eq_getElem (by omega)⟩
    rw [List.range'_concat, List.filter_append, List.length_append, ih, List.take_add_one, hx, List.filter_append, List.length_append]
    congr 1
    simp only [Nat.zero_add, Nat.one_mul]
    by_cases e : x = c
    · subst e
      rw [List.filter_cons_of_pos (by rw [hx]; exact decide_eq_true rfl)]
      simp
    · rw [List.filter_cons_of_neg (by rw [hx]; simp [e])]
      simp [e]
theorem count1 (z : Str) (b : Nat) (hb : b ≤ z.length) : Txt.countIn z ⟨#[10]⟩ 0 (b : Nat) = ((((cs z).take b).filter fun c => decide (c = 10)).length : Nat) := by
  have e1 : fromIndex z.length (0 : Int) = 0 := by
    unfold fromIndex
    rfl
  have e2 : toIndexW z.length (b : Int) = b := by
    unfold toIndexW
    rw [if_neg (by omega)]
    omega
  unfold Txt.countIn
  rw [e1, e2, PySem.StrLaws.occ_eq, Array.length_toList]
  have k := occ1 z 10 b (z.length + 1) (List.range' 0 (b + 1 - 0)) (#[], 0) (by first | exact List.pairwise_lt_range' | simpa using List.pairwise_lt_range' (s := 0) (n := b + 1)) (fun i _ => Nat.zero_le _) (by rw [List.length_range']; show 0 + _ ≤ _; omega)
  rw [k]
  have e3 : ((List.range' 0 (b + 1 - 0)).filter fun i => decide (i < b) && decide ((cs z)[i]? = some 10)) = (List.range' 0 b).filter fun i => decide ((cs z)[i]? = some 10) := by
    rw [Nat.sub_zero, List.range'_concat, List.filter_append]
    have : List.filter (fun i => decide (i < b) && decide ((cs z)[i]? = some 10)) [0 + 1 * b] = [] := by
      rw [List.filter_cons_of_neg (by simp)]
      rfl
    rw [this, List.append_nil]
    refine List.filter_congr fun i hi => ?_
    have := (List.mem_range'_1.mp hi).2
    rw [decide_eq_true (by omega : i < b)]
    rfl
  rw [e3, range_count (cs z) 10 b (by rw [cs_len]; exact hb)]
  show ((0 + _ : Nat) : Int) = _
  rw [Nat.zero_add]
end Ct

set_option maxHeartbeats 400000
namespace K63
open PySem PySem.Spec PyProof.Rows L2 Dk Q61 Wd
/-- one step of a reading -/
local macro_rules | `(tactic| walk_at "rd1") => `(tactic| first
  | ((with_reducible refine r_var (v := ?rv) ?rh ?_); (case rh => rfl))
  | with_reducible refine r_c ?_
  | with_reducible refine r_seq ?_
  | with_reducible refine r_asg ?_
  | with_reducible refine r_par ?_
  | with_reducible refine r_gname ?_
  | with_reducible refine r_op ?_
  | with_reducible refine r_forLo ?_
  | with_reducible refine r_forTo ?_
  | with_reducible refine r_forSo ?_
  | with_reducible refine r_forRo ?_
  | with_reducible refine r_forRvo ?_
  | with_reducible refine r_forZo ?_
  | with_reducible refine r_revS ?_
  | with_reducible refine r_lcRo ?_
  | with_reducible refine r_lcLo ?_
  | with_reducible refine r_yes ?_
  | with_reducible refine r_callK0 ?_
  | with_reducible refine r_break ?_
  | with_reducible refine r_continue ?_
  | with_reducible refine r_forR2o ?_
  | with_reducible refine r_forEo ?_
  | with_reducible refine r_forESo ?_
  | with_reducible refine r_xfo ?_
  | with_reducible refine r_noP ?_
  | with_reducible refine r_part ?_
  | with_reducible refine r_pI ?_
  | with_reducible refine r_gcons ?_
  | with_reducible refine r_gnil ?_
  | with_reducible refine r_mkO ?_
  | with_reducible refine r_un ?_
  | with_reducible refine r_addI ?_
  | with_reducible refine r_I0 ?_
  | with_reducible refine r_U ?_
  | with_reducible refine r_cons ?_
  | with_reducible refine r_nil ?_
  | with_reducible refine r_CB ?_
  | with_reducible refine r_call ?_
  | with_reducible refine r_callS ?_
  | with_reducible refine r_int ?_
  | with_reducible refine r_max ?_
  | with_reducible refine r_min ?_
  | with_reducible refine r_test ?_
  | with_reducible refine r_B ?_
  | with_reducible refine r_blv ?_
  | with_reducible refine r_and ?_
  | with_reducible refine r_or ?_
  | with_reducible refine r_not ?_
  | with_reducible refine r_andV ?_
  | with_reducible refine r_orV ?_
  | with_reducible refine r_notV ?_
  | with_reducible refine r_ifE ?_
  | with_reducible refine r_ifS ?_
  | with_reducible refine r_ret ?_
  | with_reducible refine r_retN ?_
  | with_reducible refine r_drop ?_
  | with_reducible refine r_next ?_
  | with_reducible refine r_sl ?_
  | with_reducible refine r_gsub ?_
  | with_reducible refine r_bm ?_
  | with_reducible refine r_bm0 ?_
  | with_reducible refine r_tup ?_
  | with_reducible refine r_lst ?_
  | with_reducible refine r_isN ?_
  | with_reducible refine r_notN ?_
  | with_reducible refine r_chain ?_
  | with_reducible refine r_callK ?_
  | with_reducible refine r_isB ?_
  | with_reducible refine r_lcEio ?_
  | with_reducible refine r_forEi ?_
  | with_reducible refine r_lcTo ?_
  | with_reducible refine r_lcSo ?_
  | with_reducible refine r_m1 ?_
  | with_reducible refine r_dget ?_
  | with_reducible refine r_din ?_
  | with_reducible refine r_dnotin ?_
  | with_reducible refine Tc.r_inC ?_
  | with_reducible refine Tc.r_getC ?_
  | with_reducible refine r_starC ?_
  | with_reducible refine r_callKS ?_
  | with_reducible refine Dk.r_fld ?_
  | with_reducible refine Dk.r_forNo ?_
  | with_reducible refine Dk.r_lcR2o ?_
  | with_reducible refine Dk.r_dcTo ?_
  | with_reducible refine Dk.r_sfld ?_
  | with_reducible refine Dk.r_meth ?_
  | with_reducible refine Dk.r_methK ?_
  | with_reducible refine Dk.r_methT ?_
  | with_reducible refine Dk.r_makeK ?_
  | with_reducible refine r_itt ?_
  | with_reducible refine r_iff ?_
  | with_reducible refine r_ittN ?_
  | with_reducible refine r_iffN ?_
  | ((with_reducible refine r_ittD ?rh ?_); (case rh => rfl))
  | ((with_reducible refine r_iffD ?rh ?_); (case rh => rfl))
  | ((with_reducible refine r_modP ?rh ?_); (case rh => decide))
  | ((with_reducible refine r_eq ?rh ?_); (case rh => rfl))
  | ((with_reducible refine r_eqP ?rh ?_); (case rh => rfl))
  | ((with_reducible refine r_ne ?rh ?_); (case rh => rfl)))
local macro_rules | `(tactic| walk_at "rd") => `(tactic| repeat walk_at "rd1")
local macro_rules | `(tactic| walk_at "isi") => `(tactic| first | refine r_isi (b := true) (by assumption) (by decide +kernel) ?_ | refine r_isi (b := false) (by assumption) (by decide +kernel) ?_)
local macro_rules | `(tactic| walk_at "rs1") => `(tactic| first
  | with_reducible refine r_seq ?_
  | with_reducible refine r_asg ?_
  | with_reducible refine r_gname ?_
  | with_reducible refine r_ret ?_)
local macro_rules | `(tactic| walk_at "rs") => `(tactic| repeat walk_at "rs1")

def spSpot0 (K : PySem.W.Frag) : Sp := fun vs H Q _ => ∃ z : Str, vs = [.str z, .int 0] ∧ z.length ≤ 700 ∧ ∀ p H', Ex H H' → Tu K H' p [.int 0, .int 0] → Q (.ref p) H'
section
variable {P : Program} {w : World} {K : PySem.W.Frag} {mg : Str → Option Value} {base : Heap}
theorem ok_spot_of (T : Txt K mg) : FnOk P w K mg base CX0 3 T.a_spot_of T.d_spot_of ["text", "place"] (spSpot0 K) := by
  refine T.F_spot_of.ok sc_spot_of (fun vs H Q E h => ?_) (fun cdv A outer s H vs Q E hr h => ?_)
  · obtain ⟨z, rfl, _⟩ := h
    rfl
  · obtain ⟨z, rfl, hz, q⟩ := h
    refine ⟨_, (pss_cons (ps_if (pt_cmpR op_gt (pv 1) (pe_callB call_lenU (by rfl) T.n_len (by decide +kernel) (pa_cons (pv 0) pa_nil)) (nomark _)) (pss_one ps_never) pss_nil)
        (pss_cons (ps_set (i := 2) sc_spot_of.nd rfl (Or.inl rfl) (pe_op op_addU (pe_bm PySem.F.plainAttrs_str PySem.F.slot_str_rfind PySem.F.type_str_rfind mt_rfind4 (pv 0) (pa_cons pe_str (pa_cons pe_int (pa_cons (pv 1) pa_nil)))) pe_int))
        (pss_one (ps_ret (pe_tup (pa_cons (pe_bm PySem.F.plainAttrs_str PySem.F.slot_str_count PySem.F.type_str_count mt_count4 (pv 0) (pa_cons pe_str (pa_cons pe_int (pa_cons (pv 1) pa_nil)))) (pa_cons (pe_op op_sub (pv 1) (pv 2)) pa_nil))))))), ?_⟩
    walk_at "rd"
    refine r_lenS (by rw [sizeLine_eq]; omega) ?_
    walk_at "rd"
    refine r_tyS ?_
    walk_at "rd"
    refine ⟨z, _, 0, 0, rfl, rfl, ?_⟩
    have er : PySem.Txt.rfindIn z "\n" 0 0 = -1 := by
      rcases rfind1 z 10 0 0 (Nat.zero_le _) with ⟨h, _⟩ | ⟨j, _, _, h, _⟩
      · exact h
      · omega
    have ec : PySem.Txt.countIn z "\n" 0 0 = 0 := Ct.count1 z 0 (Nat.zero_le _)
    rw [er]
    walk_at "rd"
    refine r_tyS ?_
    walk_at "rd"
    refine ⟨z, _, 0, 0, rfl, rfl, ?_⟩
    rw [ec]
    walk_at "rd"
    refine r_small nsz fun p hp => ?_
    obtain ⟨H1, k1, e1, h1⟩ := new1 hp (.tup [V.int 0, V.int 0])
    rw [show upd H p (.tup [V.int 0, V.int (0 - (-1 + 1))]) = H1 from k1.symm]
    exact q p _ e1 (.inl h1)
theorem ok_joined_stretches (T : Txt K mg) : FnOk P w K mg base CX0 1 T.a_joined_stretches T.d_joined_stretches ["stretches"] (spNoStretch K) := by
  refine T.F_joined_stretches.ok sc_joined_stretches (fun vs H Q E h => ?_) (fun cdv A outer s H vs Q E hr h => ?_)
  · obtain ⟨l, rfl, _⟩ := h
    rfl
  · obtain ⟨l, rfl, hl, q⟩ := h
    refine ⟨_, (pss_cons (ps_set (i := 1) sc_joined_stretches.nd rfl (Or.inl rfl) (pe_lst pa_nil))
        (pss_cons (ps_for PassesOwn.never rfl (pi_list (pe_callB cr_sortedPO (by rfl) T.n_sorted (by decide +kernel) (pa_cons (pv 0) pa_nil))) (pg_tup rfl (pgs_cons (pg_name (i := 2) sc_joined_stretches.nd rfl (Or.inl rfl)) (pgs_cons (pg_name (i := 3) sc_joined_stretches.nd rfl (Or.inl rfl)) pgs_nil))) (pss_one (ps_if (PW.pt (pw_and (pt_cmpR op_gt (pe_callB call_lenU (by rfl) T.n_len (by decide +kernel) (pa_cons (pv 1) pa_nil)) pe_int (nomark _)) (pw_and1 (pt_cmpR op_le (pv 2) (pe_ix ix_seq (pe_ix ix_seq (pv 1) (pe_un un_neg pe_int) (fun _ _ => rfl)) pe_int (fun _ _ => rfl)) (nomark _))))) (pss_cons (ps_asg (pe_bm0 PySem.F.plainAttrs_list PySem.F.slot_list_pop PySem.F.type_list_pop mt_pop (pv 1)) (pg_tup rfl (pgs_cons (pg_name (i := 4) sc_joined_stretches.nd rfl (Or.inl rfl)) (pgs_cons (pg_name (i := 5) sc_joined_stretches.nd rfl (Or.inl rfl)) pgs_nil))))
        (pss_one (ps_expr (pe_bm PySem.F.plainAttrs_list PySem.F.slot_list_append PySem.F.type_list_append mt_append (pv 1) (pa_cons (pe_tup (pa_cons (pv 4) (pa_cons (pe_callB (call_maxU rfl) (by rfl) T.n_max (by decide +kernel) (pa_cons (pv 5) (pa_cons (pv 3) pa_nil))) pa_nil))) pa_nil))))) (pss_one (ps_expr (pe_bm PySem.F.plainAttrs_list PySem.F.slot_list_append PySem.F.type_list_append mt_append (pv 1) (pa_cons (pe_tup (pa_cons (pv 2) (pa_cons (pv 3) pa_nil))) pa_nil)))))))
        (pss_one (ps_ret (pe_callTy call_tupU (by rfl) T.n_tuple (by decide +kernel) (pa_cons (pv 1) pa_nil)))))), ?_⟩
    walk_at "rd"
    refine r_small nsz fun f hf => ?_
    obtain ⟨H1, k1, e1, h1⟩ := new1 hf (.lst [])
    rw [← k1]
    have hl' := SqL.up e1 hl
    walk_at "rd"
    refine r_sortPr (l := []) hl' .nil fun ys mm dd h2 _ hp hd => ?_
    obtain rfl := List.Perm.eq_nil hp
    cases h2
    have f2 : upd H1 dd (.lst []) f = some (.lst []) := (Same.new (Same.refl H1) hd) _ _ h1
    refine l_L (sqL upd_same) (fun i σ H' => i = 0 ∧ σ = [some (.ref l), some (.ref f), none, none, none, none] ∧ H' = upd H1 dd (.lst [])) ⟨rfl, rfl, rfl⟩ (fun i σ H' hP => ?_) (fun i x σ H' hx hP => by cases hx) (fun σ H' hP => ?_)
    · obtain ⟨_, _, rfl⟩ := hP
      exact sqL upd_same
    · obtain ⟨_, rfl, rfl⟩ := hP
      walk_at "rd"
      refine r_tupLV (R := IntV) (l := []) f2 .nil fun p6 H6 hp6 e6 hT => ?_
      exact q _ _ ((e1.trans (Same.new (Same.refl H1) hd)).trans e6) hT
end
end K63

set_option maxHeartbeats 400000
namespace K63
open PySem PySem.Spec PyProof.Rows L2 Dk Q61 Wd
/-- one step of a reading -/
local macro_rules | `(tactic| walk_at "rd1") => `(tactic| first
  | ((with_reducible refine r_var (v := ?rv) ?rh ?_); (case rh => rfl))
  | with_reducible refine r_c ?_
  | with_reducible refine r_seq ?_
  | with_reducible refine r_asg ?_
  | with_reducible refine r_par ?_
  | with_reducible refine r_gname ?_
  | with_reducible refine r_op ?_
  | with_reducible refine r_forLo ?_
  | with_reducible refine r_forTo ?_
  | with_reducible refine r_forSo ?_
  | with_reducible refine r_forRo ?_
  | with_reducible refine r_forRvo ?_
  | with_reducible refine r_forZo ?_
  | with_reducible refine r_revS ?_
  | with_reducible refine r_lcRo ?_
  | with_reducible refine r_lcLo ?_
  | with_reducible refine r_yes ?_
  | with_reducible refine r_callK0 ?_
  | with_reducible refine r_break ?_
  | with_reducible refine r_continue ?_
  | with_reducible refine r_forR2o ?_
  | with_reducible refine r_forEo ?_
  | with_reducible refine r_forESo ?_
  | with_reducible refine r_xfo ?_
  | with_reducible refine r_noP ?_
  | with_reducible refine r_part ?_
  | with_reducible refine r_pI ?_
  | with_reducible refine r_gcons ?_
  | with_reducible refine r_gnil ?_
  | with_reducible refine r_mkO ?_
  | with_reducible refine r_un ?_
  | with_reducible refine r_addI ?_
  | with_reducible refine r_I0 ?_
  | with_reducible refine r_U ?_
  | with_reducible refine r_cons ?_
  | with_reducible refine r_nil ?_
  | with_reducible refine r_CB ?_
  | with_reducible refine r_call ?_
  | with_reducible refine r_callS ?_
  | with_reducible refine r_int ?_
  | with_reducible refine r_max ?_
  | with_reducible refine r_min ?_
  | with_reducible refine r_test ?_
  | with_reducible refine r_B ?_
  | with_reducible refine r_blv ?_
  | with_reducible refine r_and ?_
  | with_reducible refine r_or ?_
  | with_reducible refine r_not ?_
  | with_reducible refine r_andV ?_
  | with_reducible refine r_orV ?_
  | with_reducible refine r_notV ?_
  | with_reducible refine r_ifE ?_
  | with_reducible refine r_ifS ?_
  | with_reducible refine r_ret ?_
  | with_reducible refine r_retN ?_
  | with_reducible refine r_drop ?_
  | with_reducible refine r_next ?_
  | with_reducible refine r_sl ?_
  | with_reducible refine r_gsub ?_
  | with_reducible refine r_bm ?_
  | with_reducible refine r_bm0 ?_
  | with_reducible refine r_tup ?_
  | with_reducible refine r_lst ?_
  | with_reducible refine r_isN ?_
  | with_reducible refine r_notN ?_
  | with_reducible refine r_chain ?_
  | with_reducible refine r_callK ?_
  | with_reducible refine r_isB ?_
  | with_reducible refine r_lcEio ?_
  | with_reducible refine r_forEi ?_
  | with_reducible refine r_lcTo ?_
  | with_reducible refine r_lcSo ?_
  | with_reducible refine r_m1 ?_
  | with_reducible refine r_dget ?_
  | with_reducible refine r_din ?_
  | with_reducible refine r_dnotin ?_
  | with_reducible refine Tc.r_inC ?_
  | with_reducible refine Tc.r_getC ?_
  | with_reducible refine r_starC ?_
  | with_reducible refine r_callKS ?_
  | with_reducible refine Dk.r_fld ?_
  | with_reducible refine Dk.r_forNo ?_
  | with_reducible refine Dk.r_lcR2o ?_
  | with_reducible refine Dk.r_dcTo ?_
  | with_reducible refine Dk.r_sfld ?_
  | with_reducible refine Dk.r_meth ?_
  | with_reducible refine Dk.r_methK ?_
  | with_reducible refine Dk.r_methT ?_
  | with_reducible refine Dk.r_makeK ?_
  | with_reducible refine r_itt ?_
  | with_reducible refine r_iff ?_
  | with_reducible refine r_ittN ?_
  | with_reducible refine r_iffN ?_
  | ((with_reducible refine r_ittD ?rh ?_); (case rh => rfl))
  | ((with_reducible refine r_iffD ?rh ?_); (case rh => rfl))
  | ((with_reducible refine r_modP ?rh ?_); (case rh => decide))
  | ((with_reducible refine r_eq ?rh ?_); (case rh => rfl))
  | ((with_reducible refine r_eqP ?rh ?_); (case rh => rfl))
  | ((with_reducible refine r_ne ?rh ?_); (case rh => rfl)))
local macro_rules | `(tactic| walk_at "rd") => `(tactic| repeat walk_at "rd1")
local macro_rules | `(tactic| walk_at "isi") => `(tactic| first | refine r_isi (b := true) (by assumption) (by decide +kernel) ?_ | refine r_isi (b := false) (by assumption) (by decide +kernel) ?_)
local macro_rules | `(tactic| walk_at "rs1") => `(tactic| first
  | with_reducible refine r_seq ?_
  | with_reducible refine r_asg ?_
  | with_reducible refine r_gname ?_
  | with_reducible refine r_ret ?_)
local macro_rules | `(tactic| walk_at "rs") => `(tactic| repeat walk_at "rs1")

section
variable {P : Program} {w : World} {K : PySem.W.Frag} {mg : Str → Option Value} {base : Heap}
theorem ok_lines_hidden (T : Txt K mg) : FnOk P w K mg base CX0 4 T.a_lines_hidden T.d_lines_hidden ["text", "folds"] (spNoLines K) := by
  refine T.F_lines_hidden.ok sc_lines_hidden (fun vs H Q E h => ?_) (fun cdv A outer s H vs Q E hr h => ?_)
  · obtain ⟨z, f, rfl, _⟩ := h
    rfl
  · obtain ⟨z, f, rfl, hf, q⟩ := h
    refine ⟨_, (pss_cons (ps_set (i := 2) sc_lines_hidden.nd rfl (Or.inl rfl) (pe_lst pa_nil))
        (pss_cons (ps_for PassesOwn.never rfl (pi_tup (pv 1)) (pg_tup rfl (pgs_cons (pg_name (i := 3) sc_lines_hidden.nd rfl (Or.inl rfl)) (pgs_cons (pg_name (i := 4) sc_lines_hidden.nd rfl (Or.inl rfl)) pgs_nil))) (pss_one (ps_expr (pe_bm PySem.F.plainAttrs_list PySem.F.slot_list_extend PySem.F.type_list_extend mt_extend (pv 2) (pa_cons pe_never pa_nil)))))
        (pss_one (ps_ret (pe_callTy call_tupU (by rfl) T.n_tuple (by decide +kernel) (pa_cons (pe_callB (Sx.cr_sortSU rfl) (by rfl) T.n_sorted (by decide +kernel) (pa_cons (pe_callTy (Sx.cr_setL rfl) (by rfl) T.n_set (by decide +kernel) (pa_cons (pv 2) pa_nil)) pa_nil)) pa_nil)))))), ?_⟩
    walk_at "rd"
    refine r_small nsz fun g hg => ?_
    obtain ⟨H1, k1, e1, h1⟩ := new1 hg (.lst [])
    rw [← k1]
    walk_at "rd"
    refine l_T (hf.up e1).sq (fun i σ H' => i = 0 ∧ σ = [some (.str z), some (.ref f), some (.ref g), none, none] ∧ H' = H1) ⟨rfl, rfl, rfl⟩ (fun i σ H' hP => ?_) (fun i x σ H' hx hP => by cases hx) (fun σ H' hP => ?_)
    · obtain ⟨_, _, rfl⟩ := hP
      exact (hf.up e1).sq
    · obtain ⟨_, rfl, rfl⟩ := hP
      walk_at "rd"
      refine ⟨g, [], rfl, sqL h1, Nat.zero_le _, fun p c _ hp => ?_⟩
      walk_at "rd"
      refine ⟨p, _, c, rfl, upd_same, by omega, ?_⟩
      intro ns d hpw hmem hd
      have en : ns = [] := List.eq_nil_iff_forall_not_mem.mpr fun k hk => by
        have := (hmem k).mp hk
        simp at this
      subst en
      have e2 := Same.new (Same.refl H') (o := SetO w p (fun j => decide (j ∈ ([] : List Int))) c) hp
      walk_at "rd"
      refine r_tupLV (R := IntV) (l := []) upd_same .nil fun p6 H6 hp6 e6 hT => ?_
      exact q _ _ (((e1.trans e2).trans (Same.new (Same.refl _) hd)).trans e6) hT
end
end K63

/-! k63, maths: runs of places that differ, rows painted -/
namespace M63
variable {α : Type}
/-! ### runs -/
/-- the runs that are closed ahead of k, and where the open one begins; e: alike at this place -/
def dl (e : Nat → Bool) : Nat → List (Nat × Nat) × Nat
  | 0 => ([], 0)
  | k + 1 => if e k = true then ((dl e k).1 ++ (if (dl e k).2 < k then [((dl e k).2, k)] else []), k + 1) else dl e k
def dlc (e : Nat → Bool) (k : Nat) : List (Nat × Nat) := (dl e k).1
def dlb (e : Nat → Bool) (k : Nat) : Nat := (dl e k).2
def fin (e : Nat → Bool) (k : Nat) : List (Nat × Nat) := dlc e k ++ (if dlb e k < k then [(dlb e k, k)] else [])
theorem dl_yes {e : Nat → Bool} {k : Nat} (h : e k = true) : dlc e (k + 1) = fin e k ∧ dlb e (k + 1) = k + 1 := by
  unfold dlc dlb fin
  rw [dl, if_pos h]
  exact ⟨rfl, rfl⟩
theorem dl_no {e : Nat → Bool} {k : Nat} (h : e k = false) : dlc e (k + 1) = dlc e k ∧ dlb e (k + 1) = dlb e k := by
  unfold dlc dlb
  rw [dl, if_neg (by rw [h]; simp)]
  exact ⟨rfl, rfl⟩
theorem dlb_le {e : Nat → Bool} : ∀ k, dlb e k ≤ k
  | 0 => Nat.le_refl _
  | k + 1 => by
    have := dlb_le (e := e) k
    cases h : e k with
    | true => rw [(dl_yes h).2]; omega
    | false => rw [(dl_no h).2]; omega
theorem fin_yes {e : Nat → Bool} {k : Nat} (h : e k = true) : fin e (k + 1) = fin e k ∧ ¬ dlb e (k + 1) < k + 1 := by
  have hb := (dl_yes h).2
  refine ⟨?_, by omega⟩
  show dlc e (k + 1) ++ _ = _
  rw [if_neg (by omega), List.append_nil, (dl_yes h).1]
/-- a run begins -/
theorem fin_new {e : Nat → Bool} {k : Nat} (h : e k = false) (hb : ¬ dlb e k < k) : fin e (k + 1) = fin e k ++ [(k, k + 1)] ∧ dlb e (k + 1) = k := by
  have h1 := dlb_le (e := e) k
  have e1 : dlb e k = k := by omega
  refine ⟨?_, by rw [(dl_no h).2, e1]⟩
  unfold fin
  rw [(dl_no h).1, (dl_no h).2, if_pos (by omega), if_neg hb, List.append_nil, e1]
/-- a run grows -/
theorem fin_more {e : Nat → Bool} {k : Nat} (h : e k = false) (hb : dlb e k < k) : fin e k = dlc e k ++ [(dlb e k, k)] ∧ fin e (k + 1) = dlc e k ++ [(dlb e k, k + 1)] ∧ dlb e (k + 1) = dlb e k := by
  refine ⟨?_, ?_, (dl_no h).2⟩
  · unfold fin; rw [if_pos hb]
  · unfold fin; rw [(dl_no h).1, (dl_no h).2, if_pos (by omega)]
def inr (x : Nat) (p : Nat × Nat) : Prop := p.1 ≤ x ∧ x < p.2
instance {x : Nat} {p : Nat × Nat} : Decidable (inr x p) := inferInstanceAs (Decidable (_ ∧ _))
theorem dlc_bd {e : Nat → Bool} : ∀ k, ∀ p ∈ dlc e k, p.1 < p.2 ∧ p.2 ≤ k
  | 0, p, h => by cases h
  | k + 1, p, h => by
    cases he : e k with
    | false =>
      rw [(dl_no he).1] at h
      have := dlc_bd k p h
      omega
    | true =>
      rw [(dl_yes he).1] at h
      unfold fin at h
      rcases List.mem_append.mp h with h | h
      · have := dlc_bd k p h
        omega
      · split at h
        · cases List.mem_singleton.mp h
          dsimp only
          omega
        · cases h
theorem fin_bd {e : Nat → Bool} {k : Nat} {p : Nat × Nat} (h : p ∈ fin e k) : p.1 < p.2 ∧ p.2 ≤ k := by
  unfold fin at h
  rcases List.mem_append.mp h with h | h
  · exact dlc_bd k p h
  · split at h
    · cases List.mem_singleton.mp h
      dsimp only
      omega
    · cases h
/-- what is alike, or in a run -/
theorem dlc_all {e : Nat → Bool} : ∀ k x, x < dlb e k → e x = true ∨ ∃ p ∈ dlc e k, inr x p
  | 0, x, h => by
    have : dlb e 0 = 0 := rfl
    omega
  | k + 1, x, h => by
    cases he : e k with
    | false =>
      rw [(dl_no he).2] at h
      rw [(dl_no he).1]
      exact dlc_all k x h
    | true =>
      rw [(dl_yes he).2] at h
      rw [(dl_yes he).1]
      rcases Nat.lt_or_ge x (dlb e k) with g | g
      · rcases dlc_all k x g with z | ⟨p, hp, z⟩
        · exact .inl z
        · exact .inr ⟨p, List.mem_append_left _ hp, z⟩
      · rcases Nat.lt_or_ge x k with g2 | g2
        · refine .inr ⟨(dlb e k, k), List.mem_append_right _ ?_, g, g2⟩
          rw [if_pos (by omega)]
          exact List.mem_singleton.mpr rfl
        · have : x = k := by omega
          subst this
          exact .inl he
theorem fin_all {e : Nat → Bool} {k x : Nat} (h : x < k) : e x = true ∨ ∃ p ∈ fin e k, inr x p := by
  rcases Nat.lt_or_ge x (dlb e k) with g | g
  · rcases dlc_all k x g with z | ⟨p, hp, z⟩
    · exact .inl z
    · exact .inr ⟨p, List.mem_append_left _ hp, z⟩
  · refine .inr ⟨(dlb e k, k), List.mem_append_right _ ?_, g, h⟩
    rw [if_pos (by omega)]
    exact List.mem_singleton.mpr rfl
/-! ### painting a row -/
def put (xs : List α) (c : Nat) (t : List α) : List α := xs.take c ++ t ++ xs.drop (c + t.length)
theorem put_len {xs t : List α} {c : Nat} (h : c + t.length ≤ xs.length) : (put xs c t).length = xs.length := by
  unfold put
  simp only [List.length_append, List.length_take, List.length_drop]
  omega
theorem put_get {xs t : List α} {c x : Nat} (h : c + t.length ≤ xs.length) : (put xs c t)[x]? = if c ≤ x ∧ x < c + t.length then t[x - c]? else xs[x]? := by
  unfold put
  have hl : (xs.take c).length = c := by rw [List.length_take]; omega
  by_cases h1 : x < c
  · rw [if_neg (by omega), List.append_assoc, List.getElem?_append_left (by omega), List.getElem?_take, if_pos h1]
  · by_cases h2 : x < c + t.length
    · rw [if_pos ⟨by omega, h2⟩, List.append_assoc, List.getElem?_append_right (by omega), List.getElem?_append_left (by omega), hl]
    · rw [if_neg (by omega), List.getElem?_append_right (by rw [List.length_append]; omega), List.getElem?_drop, List.length_append, hl]
      congr 1
      omega
/-- one tile after the other -/
theorem put_step {xs t : List α} {c k : Nat} {v : α} (h : c + t.length ≤ xs.length) (hv : t[k]? = some v) : (put xs c (t.take k)).set (c + k) v = put xs c (t.take (k + 1)) := by
  have hk : k < t.length := (List.getElem?_eq_some_iff.mp hv).1
  have l1 : (t.take k).length = k := by rw [List.length_take]; omega
  have l2 : (t.take (k + 1)).length = k + 1 := by rw [List.length_take]; omega
  refine List.ext_getElem? fun x => ?_
  rw [List.getElem?_set, put_get (by omega), put_get (by omega), l1, l2, put_len (by omega)]
  by_cases e : c + k = x
  · subst e
    rw [if_pos rfl, if_pos (by omega), if_pos (by omega), show c + k - c = k by omega, List.getElem?_take, if_pos (by omega), hv]
  · rw [if_neg e]
    by_cases h1 : c ≤ x ∧ x < c + k
    · rw [if_pos h1, if_pos (by omega), List.getElem?_take, List.getElem?_take, if_pos (by omega), if_pos (by omega)]
    · rw [if_neg h1, if_neg (by omega)]
theorem put_nil {xs : List α} {c : Nat} : put xs c [] = xs := by
  unfold put
  rw [List.append_nil, List.length_nil, Nat.add_zero, List.take_append_drop]
/-- a stroke: row, column, tiles -/
abbrev Stk (α : Type) := Nat × Nat × List α
def rowPut (r : List α) (L : List (Nat × List α)) : List α := L.foldl (fun r s => put r s.1 s.2) r
def cutOf (n : List α) (p : Nat × Nat) : List α := (n.drop p.1).take (p.2 - p.1)
theorem cut_len {n : List α} {p : Nat × Nat} (h : p.1 ≤ p.2) (h2 : p.2 ≤ n.length) : (cutOf n p).length = p.2 - p.1 := by
  unfold cutOf
  rw [List.length_take, List.length_drop]
  omega
theorem cut_get {n : List α} {p : Nat × Nat} {x : Nat} (h : inr x p) : (cutOf n p)[x - p.1]? = n[x]? := by
  unfold cutOf
  have := h.1
  have := h.2
  rw [List.getElem?_take, if_pos (by omega), List.getElem?_drop]
  congr 1
  omega
theorem rowPut_get {n : List α} : ∀ (L : List (Nat × Nat)) (o : List α), o.length = n.length → (∀ p ∈ L, p.1 < p.2 ∧ p.2 ≤ n.length) → (rowPut o (L.map fun p => (p.1, cutOf n p))).length = n.length ∧ ∀ x, (rowPut o (L.map fun p => (p.1, cutOf n p)))[x]? = if ∃ p ∈ L, inr x p then n[x]? else o[x]?
  | [], o, hl, _ => ⟨hl, fun x => by rw [if_neg (fun ⟨p, h, _⟩ => nomatch h)]; rfl⟩
  | p :: L, o, hl, hb => by
    have hp := hb p (List.mem_cons_self ..)
    have lc := cut_len (n := n) (Nat.le_of_lt hp.1) hp.2
    have l1 : (put o p.1 (cutOf n p)).length = o.length := put_len (by omega)
    obtain ⟨g1, g2⟩ := rowPut_get L (put o p.1 (cutOf n p)) (by omega) (fun q hq => hb q (List.mem_cons_of_mem _ hq))
    refine ⟨g1, fun x => (g2 x).trans ?_⟩
    by_cases h1 : ∃ q ∈ L, inr x q
    · rw [if_pos h1, if_pos]
      obtain ⟨q, hq, z⟩ := h1
      exact ⟨q, List.mem_cons_of_mem _ hq, z⟩
    · rw [if_neg h1, put_get (by omega), lc]
      by_cases h2 : inr x p
      · rw [if_pos (by have := h2.1; have := h2.2; omega), if_pos ⟨p, List.mem_cons_self .., h2⟩]
        exact cut_get h2
      · rw [if_neg (fun z => h2 ⟨z.1, by omega⟩), if_neg]
        rintro ⟨q, hq, z⟩
        rcases List.mem_cons.mp hq with rfl | hq
        · exact h2 z
        · exact h1 ⟨q, hq, z⟩
/-- the runs of a row: where they begin, their new tiles -/
def runsOf [DecidableEq α] (o n : List α) : List (Nat × Nat) := fin (fun k => decide (n[k]? = o[k]?)) n.length
theorem rowPut_runs [DecidableEq α] {o n : List α} (hl : o.length = n.length) : rowPut o ((runsOf o n).map fun p => (p.1, cutOf n p)) = n := by
  obtain ⟨g1, g2⟩ := rowPut_get (n := n) (runsOf o n) o hl (fun p hp => fin_bd hp)
  refine List.ext_getElem? fun x => (g2 x).trans ?_
  by_cases hx : x < n.length
  · rcases fin_all (e := fun k => decide (n[k]? = o[k]?)) hx with z | z
    · have := of_decide_eq_true z
      rw [← this, ite_self]
    · exact if_pos z
  · rw [List.getElem?_eq_none (by omega), List.getElem?_eq_none (by omega), ite_self]
/-! ### painting a screen -/
def one (S : List (List α)) (s : Stk α) : List (List α) := match S[s.1]? with | some r => S.set s.1 (put r s.2.1 s.2.2) | none => S
def paint (S : List (List α)) (L : List (Stk α)) : List (List α) := L.foldl one S
/-- strokes that lie on the screen -/
def OkS (S : List (List α)) (s : Stk α) : Prop := ∃ r, S[s.1]? = some r ∧ s.2.1 + s.2.2.length ≤ r.length
theorem one_some {S : List (List α)} {s : Stk α} {r : List α} (h : S[s.1]? = some r) : one S s = S.set s.1 (put r s.2.1 s.2.2) := by unfold one; rw [h]
theorem one_len {S : List (List α)} {s : Stk α} : (one S s).length = S.length := by
  unfold one; split
  · rw [List.length_set]
  · rfl
theorem ok_one {S : List (List α)} {s t : Stk α} (hs : OkS S s) (ht : OkS S t) : OkS (one S s) t := by
  obtain ⟨r, h1, h2⟩ := hs
  obtain ⟨r', h3, h4⟩ := ht
  rw [one_some h1]
  unfold OkS
  rw [List.getElem?_set]
  have hlt : s.1 < S.length := (List.getElem?_eq_some_iff.mp h1).1
  by_cases e : s.1 = t.1
  · rw [if_pos e, if_pos hlt]
    refine ⟨_, rfl, ?_⟩
    rw [put_len h2]
    rw [← e, h1] at h3
    cases h3
    exact h4
  · rw [if_neg e]
    exact ⟨r', h3, h4⟩
theorem paint_take {S : List (List α)} {L : List (Stk α)} {i : Nat} {s : Stk α} (h : L[i]? = some s) : paint S (L.take (i + 1)) = one (paint S (L.take i)) s := by
  have hi := (List.getElem?_eq_some_iff.mp h).1
  unfold paint
  rw [List.take_succ, h, List.foldl_append]
  rfl
theorem paint_ok {S : List (List α)} {L : List (Stk α)} (h : ∀ s ∈ L, OkS S s) {t : Stk α} (ht : OkS S t) : OkS (paint S L) t := by
  induction L generalizing S with
  | nil => exact ht
  | cons s L ih =>
    have hs := h s (List.mem_cons_self ..)
    exact ih (S := one S s) (fun q hq => ok_one hs (h q (List.mem_cons_of_mem _ hq))) (ok_one hs ht)
theorem paint_len {S : List (List α)} {L : List (Stk α)} : (paint S L).length = S.length := by
  induction L generalizing S with
  | nil => rfl
  | cons s L ih => exact (ih (S := one S s)).trans one_len
/-- each row keeps its length -/
def Wide (w : Nat) (S : List (List α)) : Prop := ∀ r ∈ S, r.length = w
theorem wide_one {S : List (List α)} {s : Stk α} {w : Nat} (hS : Wide w S) (hs : OkS S s) : Wide w (one S s) := by
  obtain ⟨r, h1, h2⟩ := hs
  rw [one_some h1]
  intro q hq
  rcases List.mem_or_eq_of_mem_set hq with z | z
  · exact hS q z
  · rw [z, put_len h2]
    exact hS r (List.mem_of_getElem? h1)
theorem wide_paint {S : List (List α)} {L : List (Stk α)} {w : Nat} (hS : Wide w S) (h : ∀ s ∈ L, OkS S s) : Wide w (paint S L) := by
  induction L generalizing S with
  | nil => exact hS
  | cons s L ih =>
    have hs := h s (List.mem_cons_self ..)
    exact ih (S := one S s) (wide_one hS hs) (fun q hq => ok_one hs (h q (List.mem_cons_of_mem _ hq)))
/-- what is due for one row -/
def dueRow [DecidableEq α] (j : Nat) (o n : List α) : List (Stk α) := (runsOf o n).map fun p => (j, p.1, cutOf n p)
def dueTo [DecidableEq α] (A B : List (List α)) : Nat → List (Stk α)
  | 0 => []
  | j + 1 => dueTo A B j ++ dueRow j (A.getD j []) (B.getD j [])
def due [DecidableEq α] (A B : List (List α)) : List (Stk α) := dueTo A B B.length
theorem paint_app {S : List (List α)} {L M : List (Stk α)} : paint S (L ++ M) = paint (paint S L) M := List.foldl_append
theorem paint_row {S : List (List α)} {j : Nat} {r : List α} (h : S[j]? = some r) : ∀ (L : List (Nat × List α)), paint S (L.map fun p => (j, p.1, p.2)) = S.set j (rowPut r L)
  | [] => by
    obtain ⟨hj, rfl⟩ := List.getElem?_eq_some_iff.mp h
    exact (List.set_getElem_self hj).symm
  | p :: L => by
    have hj := (List.getElem?_eq_some_iff.mp h).1
    have e : one S (j, p.1, p.2) = S.set j (put r p.1 p.2) := one_some (s := (j, p.1, p.2)) h
    show paint (one S (j, p.1, p.2)) (L.map fun p => (j, p.1, p.2)) = _
    rw [e, paint_row (S := S.set j (put r p.1 p.2)) (j := j) (r := put r p.1 p.2) (by rw [List.getElem?_set, if_pos rfl, if_pos hj]) L, List.set_set]
    rfl
theorem paint_due [DecidableEq α] {A B : List (List α)} {w : Nat} (hl : A.length = B.length) (hA : Wide w A) (hB : Wide w B) : ∀ j, j ≤ B.length → paint A (dueTo A B j) = B.take j ++ A.drop j
  | 0, _ => rfl
  | j + 1, h => by
    have ih := paint_due hl hA hB j (by omega)
    obtain ⟨b, hb⟩ : ∃ b, B[j]? = some b := ⟨_, List.getElem?_eq_getElem (by omega)⟩
    obtain ⟨a, ha⟩ : ∃ a, A[j]? = some a := ⟨_, List.getElem?_eq_getElem (by omega)⟩
    have lt : (B.take j).length = j := by rw [List.length_take]; omega
    rw [dueTo, paint_app, ih, List.getD_eq_getElem?_getD, List.getD_eq_getElem?_getD, ha, hb]
    have e : dueRow j (Option.getD (some a) []) (Option.getD (some b) []) = ((runsOf a b).map fun p => (p.1, cutOf b p)).map fun p => (j, p.1, p.2) := by
      unfold dueRow
      rw [List.map_map]
      rfl
    have hd : A.drop j = a :: A.drop (j + 1) := by
      rw [← List.getElem_cons_drop (by omega : j < A.length)]
      congr 1
      exact (List.getElem?_eq_some_iff.mp ha).2
    rw [e, paint_row (r := a) (by rw [List.getElem?_append_right (by omega), lt, Nat.sub_self, hd]; rfl), rowPut_runs (by rw [hA a (List.mem_of_getElem? ha), hB b (List.mem_of_getElem? hb)]),
      List.set_append_right _ _ (by omega), lt, Nat.sub_self, hd, List.set_cons_zero, List.take_succ, hb, List.append_assoc]
    rfl
theorem paint_due_all [DecidableEq α] {A B : List (List α)} {w : Nat} (hl : A.length = B.length) (hA : Wide w A) (hB : Wide w B) : paint A (due A B) = B := by
  unfold due
  rw [paint_due hl hA hB _ (Nat.le_refl _), List.take_length, List.drop_eq_nil_of_le (by omega), List.append_nil]
theorem due_ok [DecidableEq α] {A B : List (List α)} {w : Nat} (hl : A.length = B.length) (hA : Wide w A) (hB : Wide w B) : ∀ j, j ≤ B.length → ∀ s ∈ dueTo A B j, OkS A s ∧ s.2.2.length ≤ w
  | 0, _, s, h => by cases h
  | j + 1, hj, s, h => by
    rw [dueTo] at h
    rcases List.mem_append.mp h with h | h
    · exact due_ok hl hA hB j (by omega) s h
    · obtain ⟨b, hb⟩ : ∃ b, B[j]? = some b := ⟨_, List.getElem?_eq_getElem (by omega)⟩
      obtain ⟨a, ha⟩ : ∃ a, A[j]? = some a := ⟨_, List.getElem?_eq_getElem (by omega)⟩
      rw [List.getD_eq_getElem?_getD, List.getD_eq_getElem?_getD, ha, hb] at h
      obtain ⟨p, hp, rfl⟩ := List.mem_map.mp h
      have h1 := fin_bd hp
      have la := hA a (List.mem_of_getElem? ha)
      have lb := hB b (List.mem_of_getElem? hb)
      have h2 : p.2 ≤ b.length := h1.2
      have lc := cut_len (n := b) (p := p) (Nat.le_of_lt h1.1) h2
      refine ⟨⟨a, ha, ?_⟩, ?_⟩
      · show p.1 + (cutOf b p).length ≤ _
        omega
      · show (cutOf b p).length ≤ _
        omega
end M63

set_option maxHeartbeats 400000
namespace K63
open PySem PySem.Spec PyProof.Rows L2 Dk Q61 Wd M63
/-- one step of a reading -/
local macro_rules | `(tactic| walk_at "rd1") => `(tactic| first
  | ((with_reducible refine r_var (v := ?rv) ?rh ?_); (case rh => rfl))
  | with_reducible refine r_c ?_
  | with_reducible refine r_seq ?_
  | with_reducible refine r_asg ?_
  | with_reducible refine r_par ?_
  | with_reducible refine r_gname ?_
  | with_reducible refine r_op ?_
  | with_reducible refine r_forLo ?_
  | with_reducible refine r_forTo ?_
  | with_reducible refine r_forSo ?_
  | with_reducible refine r_forRo ?_
  | with_reducible refine r_forRvo ?_
  | with_reducible refine r_forZo ?_
  | with_reducible refine r_revS ?_
  | with_reducible refine r_lcRo ?_
  | with_reducible refine r_lcLo ?_
  | with_reducible refine r_yes ?_
  | with_reducible refine r_callK0 ?_
  | with_reducible refine r_break ?_
  | with_reducible refine r_continue ?_
  | with_reducible refine r_forR2o ?_
  | with_reducible refine r_forEo ?_
  | with_reducible refine r_forESo ?_
  | with_reducible refine r_xfo ?_
  | with_reducible refine r_noP ?_
  | with_reducible refine r_part ?_
  | with_reducible refine r_pI ?_
  | with_reducible refine r_gcons ?_
  | with_reducible refine r_gnil ?_
  | with_reducible refine r_mkO ?_
  | with_reducible refine r_un ?_
  | with_reducible refine r_addI ?_
  | with_reducible refine r_I0 ?_
  | with_reducible refine r_U ?_
  | with_reducible refine r_cons ?_
  | with_reducible refine r_nil ?_
  | with_reducible refine r_CB ?_
  | with_reducible refine r_call ?_
  | with_reducible refine r_callS ?_
  | with_reducible refine r_int ?_
  | with_reducible refine r_max ?_
  | with_reducible refine r_min ?_
  | with_reducible refine r_test ?_
  | with_reducible refine r_B ?_
  | with_reducible refine r_blv ?_
  | with_reducible refine r_and ?_
  | with_reducible refine r_or ?_
  | with_reducible refine r_not ?_
  | with_reducible refine r_andV ?_
  | with_reducible refine r_orV ?_
  | with_reducible refine r_notV ?_
  | with_reducible refine r_ifE ?_
  | with_reducible refine r_ifS ?_
  | with_reducible refine r_ret ?_
  | with_reducible refine r_retN ?_
  | with_reducible refine r_drop ?_
  | with_reducible refine r_next ?_
  | with_reducible refine r_sl ?_
  | with_reducible refine r_gsub ?_
  | with_reducible refine r_bm ?_
  | with_reducible refine r_bm0 ?_
  | with_reducible refine r_tup ?_
  | with_reducible refine r_lst ?_
  | with_reducible refine r_isN ?_
  | with_reducible refine r_notN ?_
  | with_reducible refine r_chain ?_
  | with_reducible refine r_callK ?_
  | with_reducible refine r_isB ?_
  | with_reducible refine r_lcEio ?_
  | with_reducible refine r_forEi ?_
  | with_reducible refine r_lcTo ?_
  | with_reducible refine r_lcSo ?_
  | with_reducible refine r_m1 ?_
  | with_reducible refine r_dget ?_
  | with_reducible refine r_din ?_
  | with_reducible refine r_dnotin ?_
  | with_reducible refine Tc.r_inC ?_
  | with_reducible refine Tc.r_getC ?_
  | with_reducible refine r_starC ?_
  | with_reducible refine r_callKS ?_
  | with_reducible refine Dk.r_fld ?_
  | with_reducible refine Dk.r_forNo ?_
  | with_reducible refine Dk.r_lcR2o ?_
  | with_reducible refine Dk.r_dcE ?_
  | with_reducible refine Dk.r_gsliT ?_
  | with_reducible refine Dk.r_dcTo ?_
  | with_reducible refine Dk.r_sfld ?_
  | with_reducible refine Dk.r_meth ?_
  | with_reducible refine Dk.r_methK ?_
  | with_reducible refine Dk.r_methT ?_
  | with_reducible refine Dk.r_makeK ?_
  | with_reducible refine r_itt ?_
  | with_reducible refine r_iff ?_
  | with_reducible refine r_ittN ?_
  | with_reducible refine r_iffN ?_
  | ((with_reducible refine r_ittD ?rh ?_); (case rh => rfl))
  | ((with_reducible refine r_iffD ?rh ?_); (case rh => rfl))
  | ((with_reducible refine r_modP ?rh ?_); (case rh => decide))
  | ((with_reducible refine r_eq ?rh ?_); (case rh => rfl))
  | ((with_reducible refine r_eqP ?rh ?_); (case rh => rfl))
  | ((with_reducible refine r_ne ?rh ?_); (case rh => rfl)))
local macro_rules | `(tactic| walk_at "rd") => `(tactic| repeat walk_at "rd1")
local macro_rules | `(tactic| walk_at "isi") => `(tactic| first | refine r_isi (b := true) (by assumption) (by decide +kernel) ?_ | refine r_isi (b := false) (by assumption) (by decide +kernel) ?_)
local macro_rules | `(tactic| walk_at "rs1") => `(tactic| first
  | with_reducible refine r_seq ?_
  | with_reducible refine r_asg ?_
  | with_reducible refine r_gname ?_
  | with_reducible refine r_ret ?_)
local macro_rules | `(tactic| walk_at "rs") => `(tactic| repeat walk_at "rs1")

theorem r_slB {α : Type} {R : Hp → V → α → Prop} [Imm R] {K : PySem.W.Frag} {H : Hp} {Q : VK} {v : V} {l : List α} {i j : Nat} {a b : Int} (ha : a = (i : Nat)) (hb : b = (j : Nat)) (hij : i ≤ j) (hj : j ≤ l.length) (h : TupV K R H v l)
    (q : ∀ w H', Ex H H' → TupV K R H' w ((l.drop i).take (j - i)) → Q w H') : rSlU K v (some a) (some b) H Q := by
  subst ha hb
  refine r_slTV h ?_
  rw [HT.sIx_nat, HT.sIx_nat, Nat.min_eq_left (show i ≤ l.length by omega), Nat.min_eq_left hj]
  exact q
theorem p2_last {α : Type} {R : V → α → Prop} {m : List α} {a b : α} {v : V} : ∀ {xs : List V}, P2 R xs (m ++ [a]) → R v b → P2 R (xs.set (xs.length - 1) v) (m ++ [b]) := by
  induction m with
  | nil =>
    intro xs h hv
    cases h with
    | cons h1 t => cases t; exact .cons hv .nil
  | cons c m ih =>
    intro xs h hv
    cases h with
    | @cons x _ l _ h1 t =>
      have hl : l.length = (m ++ [a]).length := t.len
      rw [List.length_append, List.length_singleton] at hl
      rw [List.length_cons, Nat.add_sub_cancel, show l.length = (l.length - 1) + 1 by omega, List.set_cons_succ]
      exact .cons h1 (ih t hv)
/-! ### tiles, rows of tiles, screens, strokes -/
abbrev Til := Str × Int × Int
/-- signs that a text may have -/
def OkZ (z : Str) : Prop := ∀ c ∈ cs z, c < 1114112
theorem OkZ.ok {z : Str} (h : OkZ z) : PyData.strOk z = true := by
  unfold PyData.strOk
  rw [Array.all_eq_true]
  intro i hi
  exact decide_eq_true (h _ (Array.getElem_mem_toList hi))
def TlV (K : PySem.W.Frag) (H : Hp) (v : V) (x : Til) : Prop := x.1.length ≤ 1000 ∧ OkZ x.1 ∧ ∃ p, v = .ref p ∧ Tu K H p [.str x.1, .int x.2.1, .int x.2.2]
instance {K : PySem.W.Frag} : Imm (TlV K) := ⟨fun t h => ⟨h.1, h.2.1, h.2.2.imp fun p z => ⟨z.1, z.2.tk t⟩⟩⟩
abbrev RwV (K : PySem.W.Frag) := TupV K (TlV K)
abbrev ScV (K : PySem.W.Frag) := TupV K (RwV K)
def StV (K : PySem.W.Frag) (H : Hp) (v : V) (s : Stk Til) : Prop := ∃ p u, v = .ref p ∧ Tu K H p [.int (s.1 : Nat), .int (s.2.1 : Nat), u] ∧ RwV K H u s.2.2
instance {K : PySem.W.Frag} : Imm (StV K) := ⟨fun t h => by
  obtain ⟨p, u, h1, h2, h3⟩ := h
  exact ⟨p, u, h1, h2.tk t, imm (R := RwV K) t h3⟩⟩
abbrev tlD (x : Til) : PyData := .tuple [.str x.1, .int x.2.1, .int x.2.2]
theorem TlV.dp {K : PySem.W.Frag} {G : Hp} {v : V} {x : Til} (h : TlV K G v x) : Dp K G v (tlD x) := by
  obtain ⟨_, _, p, rfl, hp⟩ := h
  exact .tup hp.sq (.cons (.str _) (.cons (.int _) (.cons (.int _) .nil)))
theorem tl_shaped {x : Til} (h : OkZ x.1) : SeqAt.shaped (tlD x) = true := by simp [h.ok, SeqAt.shaped, tlD, PyData.canLay0, PyData.canLayAll0, PyData.depth, PyData.depthAll]
theorem tl_eqv (x y : Til) : PyData.eqv (tlD x) (tlD y) = decide (x = y) := by
  obtain ⟨a, b, c⟩ := x
  obtain ⟨d, e, f⟩ := y
  show (PyData.eqv (.str a) (.str d) && (PyData.eqv (.int b) (.int e) && (PyData.eqv (.int c) (.int f) && true))) = _
  show ((a == d) && ((b == e) && ((c == f) && true))) = _
  rw [Bool.and_true, Bool.eq_iff_iff]
  simp
theorem r_eqTl {K : PySem.W.Frag} {H : Hp} {Q : VK} {v w : V} {x y : Til} (h1 : TlV K H v x) (h2 : TlV K H w y) (q : Q (.bl (decide (x = y))) H) : rEqU K v w H Q :=
  .inr ⟨_, _, h1.dp, h2.dp, tl_shaped h1.2.1, tl_shaped h2.2.1, by rw [tl_eqv]; exact q⟩
/-! ### to the eye of the law -/
theorem sm_tl {K : PySem.W.Frag} {H : Hp} {v u : V} {x : Til} (h : TlV K H v x) (g : TlV K H u x) {d : Nat} : Sm K H (d + 2) v u := by
  obtain ⟨hz, _, p, rfl, hp⟩ := h
  obtain ⟨_, _, q, rfl, hq⟩ := g
  exact .inr (.inr (.inr ⟨p, q, _, _, rfl, rfl, hp, hq, Nat.le_of_ble_eq_true rfl, .cons (.inr (.inr (.inl ⟨_, hz, rfl, rfl⟩))) (.cons (.inl ⟨_, rfl, rfl⟩) (.cons (.inl ⟨_, rfl, rfl⟩) .nil))⟩))
theorem sm_tup {K : PySem.W.Frag} {α : Type} {R : Hp → V → α → Prop} {H : Hp} {v u : V} {l : List α} {d : Nat} (k : ∀ a b x, R H a x → R H b x → Sm K H d a b) (h : TupV K R H v l) (g : TupV K R H u l) (hl : l.length ≤ 100000) : Sm K H (d + 1) v u := by
  obtain ⟨p, xs, rfl, hp, hx⟩ := h
  obtain ⟨q, ys, rfl, hq, hy⟩ := g
  exact .inr (.inr (.inr ⟨p, q, _, _, rfl, rfl, hp, hq, by rw [hx.len]; exact hl, hx.join (S := R H) (fun a b c h1 h2 => k a b c h1 h2) hy⟩))
theorem sm_rw {K : PySem.W.Frag} {H : Hp} {v u : V} {l : List Til} (h : RwV K H v l) (g : RwV K H u l) (hl : l.length ≤ 1000) {d : Nat} : Sm K H (d + 3) v u :=
  sm_tup (fun a b x h1 h2 => sm_tl h1 h2) h g (by omega)
/-- screens that are alike -/
theorem sm_sc {K : PySem.W.Frag} {H : Hp} {v u : V} {A : List (List Til)} (h : ScV K H v A) (g : ScV K H u A) (hl : A.length ≤ 1000) (hr : ∀ r ∈ A, r.length ≤ 1000) {d : Nat} : Sm K H (d + 4) v u := by
  obtain ⟨p, xs, rfl, hp, hx⟩ := h
  obtain ⟨q, ys, rfl, hq, hy⟩ := g
  have key : ∀ {xs ys : List V} {A : List (List Til)}, (∀ r ∈ A, r.length ≤ 1000) → P2 (RwV K H) xs A → P2 (RwV K H) ys A → P2 (Sm K H (d + 3)) xs ys := by
    intro xs ys A hr hx hy
    induction hx generalizing ys with
    | nil => cases hy; exact .nil
    | @cons a r l m h _ ih =>
      cases hy with
      | cons h2 t2 => exact .cons (sm_rw h h2 (hr _ (List.mem_cons_self ..))) (ih (fun q hq => hr q (List.mem_cons_of_mem _ hq)) t2)
  exact .inr (.inr (.inr ⟨p, q, _, _, rfl, rfl, hp, hq, by rw [hx.len]; omega, key hr hx hy⟩))
theorem sm_st {K : PySem.W.Frag} {H : Hp} {v u : V} {s : Stk Til} (h : StV K H v s) (g : StV K H u s) (hl : s.2.2.length ≤ 1000) {d : Nat} : Sm K H (d + 4) v u := by
  obtain ⟨p, a, rfl, hp, ha⟩ := h
  obtain ⟨q, b, rfl, hq, hb⟩ := g
  exact .inr (.inr (.inr ⟨p, q, _, _, rfl, rfl, hp, hq, Nat.le_of_ble_eq_true rfl, .cons (.inl ⟨_, rfl, rfl⟩) (.cons (.inl ⟨_, rfl, rfl⟩) (.cons (sm_rw ha hb hl) .nil))⟩))
theorem sm_sts {K : PySem.W.Frag} {H : Hp} {v u : V} {L : List (Stk Til)} (h : TupV K (StV K) H v L) (g : TupV K (StV K) H u L) (hl : L.length ≤ 100000) (hr : ∀ s ∈ L, s.2.2.length ≤ 1000) {d : Nat} : Sm K H (d + 5) v u := by
  obtain ⟨p, xs, rfl, hp, hx⟩ := h
  obtain ⟨q, ys, rfl, hq, hy⟩ := g
  have key : ∀ {xs ys : List V} {L : List (Stk Til)}, (∀ s ∈ L, s.2.2.length ≤ 1000) → P2 (StV K H) xs L → P2 (StV K H) ys L → P2 (Sm K H (d + 4)) xs ys := by
    intro xs ys A hr hx hy
    induction hx generalizing ys with
    | nil => cases hy; exact .nil
    | @cons a r l m h _ ih =>
      cases hy with
      | cons h2 t2 => exact .cons (sm_st h h2 (hr _ (List.mem_cons_self ..))) (ih (fun q hq => hr q (List.mem_cons_of_mem _ hq)) t2)
  exact .inr (.inr (.inr ⟨p, q, _, _, rfl, rfl, hp, hq, by rw [hx.len]; exact hl, key hr hx hy⟩))
/-! ### the runs of a row -/
/-- a list of strokes at r -/
def StL (K : PySem.W.Frag) (H : Hp) (r : Addr) (L : List (Stk Til)) : Prop := ∃ xs, H r = some (.lst xs) ∧ P2 (StV K H) xs L
theorem StL.up {K : PySem.W.Frag} {H H' : Hp} {r : Addr} {L : List (Stk Til)} (e : Ex H H') (h : StL K H r L) : StL K H' r L := by
  obtain ⟨xs, h1, h2⟩ := h
  exact ⟨xs, e _ _ h1, p2_imm (.ex e) h2⟩
def stk (j : Nat) (n : List Til) (p : Nat × Nat) : Stk Til := (j, p.1, cutOf n p)
def alike (o n : List Til) (k : Nat) : Bool := decide (n[k]? = o[k]?)
theorem dueRow_eq {j : Nat} {o n : List Til} : dueRow j o n = (fin (alike o n) n.length).map (stk j n) := rfl
def spRowP (K : PySem.W.Frag) : Sp := fun vs H Q _ => ∃ (j : Nat) (o n : V) (A B : List Til), vs = [.int (j : Nat), o, n] ∧ RwV K H o A ∧ RwV K H n B ∧ A.length = B.length ∧ B.length ≤ 100 ∧ ∀ l H', Ex H H' → StL K H' l (dueRow j A B) → Q (.ref l) H'
section
variable {P : Program} {w : World} {K : PySem.W.Frag} {mg : Str → Option Value} {base : Heap}
theorem fin_le {e : Nat → Bool} (k : Nat) : (fin e k).length ≤ k := by
  have h : ∀ k, (fin e k).length ≤ k := fun k => by
    induction k with
    | zero => unfold fin; rw [if_neg (Nat.not_lt_zero _)]; exact Nat.le_refl 0
    | succ k ih =>
      cases h : e k with
      | true => rw [(fin_yes h).1]; omega
      | false =>
        by_cases hb : dlb e k < k
        · obtain ⟨h1, h2, _⟩ := fin_more h hb
          rw [h1] at ih
          rw [h2]
          simp only [List.length_append, List.length_singleton] at *
          omega
        · rw [(fin_new h hb).1]
          simp only [List.length_append, List.length_singleton]
          omega
  exact h k
theorem cut_one {n : List Til} {k : Nat} {x : Til} (h : n[k]? = some x) : cutOf n (k, k + 1) = [x] := by
  have hk := (List.getElem?_eq_some_iff.mp h).1
  unfold cutOf
  dsimp only
  rw [show k + 1 - k = 1 by omega, ← List.getElem_cons_drop hk, List.take_succ_cons, List.take_zero, (List.getElem?_eq_some_iff.mp h).2]
/-- where the open run begins, as the program keeps it -/
def opn (e : Nat → Bool) (k : Nat) : V := if dlb e k < k then .int (dlb e k : Nat) else .non
theorem ok_row_paints (T : Txt K mg) : FnOk P w K mg base CX0 1 T.a_row_paints T.d_row_paints ["row", "old", "new"] (spRowP K) := by
  refine T.F_row_paints.ok sc_row_paints (fun vs H Q E h => ?_) (fun cdv A outer s H vs Q E hr h => ?_)
  · obtain ⟨j, o, n, A, B, rfl, _⟩ := h
    rfl
  · obtain ⟨j, o, n, A, B, rfl, ho, hn, hl, hb, q⟩ := h
    refine ⟨_, (pss_cons (ps_set (i := 3) sc_row_paints.nd rfl (Or.inl rfl) (pe_lst pa_nil))
        (pss_cons (ps_set (i := 4) sc_row_paints.nd rfl (Or.inl rfl) pe_non)
        (pss_cons (ps_for PassesOwn.never rfl (pi_enumT (by rfl) T.n_enumerate (pa_cons (pv 2) pa_nil)) (pg_tup rfl (pgs_cons (pg_name (i := 5) sc_row_paints.nd rfl (Or.inl rfl)) (pgs_cons (pg_name (i := 6) sc_row_paints.nd rfl (Or.inl rfl)) pgs_nil))) (pss_one (ps_if (pt_cmpR (op_eqU hr.units) (pv 6) (pe_ix ix_seq (pv 1) (pv 5) (fun _ _ => rfl)) (nomark _)) (pss_one (ps_set (i := 4) sc_row_paints.nd rfl (Or.inl rfl) pe_non)) (pss_one (ps_if (pt_cmpR op_isU (pv 4) pe_non (nomark _)) (pss_cons (ps_set (i := 4) sc_row_paints.nd rfl (Or.inl rfl) (pv 5))
        (pss_one (ps_expr (pe_bm PySem.F.plainAttrs_list PySem.F.slot_list_append PySem.F.type_list_append mt_append (pv 3) (pa_cons (pe_tup (pa_cons (pv 0) (pa_cons (pv 5) (pa_cons (pe_tup (pa_cons (pv 6) pa_nil)) pa_nil)))) pa_nil))))) (pss_one (ps_asg (pe_tup (pa_cons (pv 0) (pa_cons (pv 4) (pa_cons (pe_slice sl_U (pv 2) (po_some (pv 4)) (po_some (pe_op op_addU (pv 5) pe_int))) pa_nil)))) (pg_sub (pv 3) (pe_un un_neg pe_int) set_list))))))))
        (pss_one (ps_ret (pv 3)))))), ?_⟩
    walk_at "rd"
    refine r_small nsz fun r hr0 => ?_
    obtain ⟨H0, k0, e0, h0⟩ := new1 hr0 (.lst [])
    rw [← k0]
    walk_at "rd"
    obtain ⟨a, xs, rfl, ha, hx⟩ := hn
    refine l_E (ha.up e0).sq (fun i σ H' => ∃ y5 y6 ys, σ = [some (.int (j : Nat)), some o, some (.ref a), some (.ref r), some (opn (alike A B) i), y5, y6] ∧ Ex H H' ∧ H' r = some (.lst ys) ∧ P2 (StV K H') ys ((fin (alike A B) i).map (stk j B))) ⟨none, none, [], rfl, e0, h0, .nil⟩ (fun i σ H' hP => ?_) (fun i x σ H' p hxi hP hp => ?_) (fun σ H' hP => ?_)
    · obtain ⟨_, _, _, _, e, _⟩ := hP
      exact (ha.up e).sq
    · obtain ⟨y5, y6, ys, rfl, e, hr1, hys⟩ := hP
      obtain ⟨H1, k1, e1, h1⟩ := new1 hp (.tup [.int (i : Nat), x])
      rw [← k1]
      obtain ⟨t, ht, hxt⟩ := hx.get hxi
      have il := (List.getElem?_eq_some_iff.mp ht).1
      obtain ⟨t2, ht2⟩ : ∃ t2, A[i]? = some t2 := ⟨_, List.getElem?_eq_getElem (by omega)⟩
      have eH := e.trans e1
      have ho1 := imm (R := RwV K) (.ex eH) ho
      have hxt1 := imm (R := TlV K) (.ex eH) hxt
      have hr1 := e1 _ _ hr1
      have hys := p2_imm (R := StV K) (.ex e1) hys
      have fl := fin_le (e := alike A B) i
      have yl : ys.length ≤ 100 := by rw [hys.len, List.length_map]; omega
      walk_at "rd"
      refine r_gtup (sqT h1) rfl ?_
      walk_at "rd"
      refine r_ixTV ho1 ht2 fun u hu => ?_
      walk_at "rd"
      refine r_eqTl hxt1 hu ?_
      have ea : alike A B i = decide (t = t2) := by
        unfold alike
        rw [ht, ht2]
        exact decide_eq_decide.mpr ⟨Option.some.inj, fun z => by rw [z]⟩
      rw [← ea]
      cases hal : alike A B i with
      | true =>
        walk_at "rd"
        obtain ⟨f1, f2⟩ := fin_yes hal
        exact ⟨_, _, ys, by rw [show opn (alike A B) (i + 1) = V.non from if_neg f2]; rfl, eH, hr1, by rw [f1]; exact hys⟩
      | false =>
        by_cases hbk : dlb (alike A B) i < i
        · obtain ⟨f0, f1, f2⟩ := fin_more hal hbk
          rw [show opn (alike A B) i = V.int (dlb (alike A B) i : Nat) from if_pos hbk]
          obtain ⟨b, hbe⟩ : ∃ b, b = dlb (alike A B) i := ⟨_, rfl⟩
          rw [← hbe] at f0 f1 f2 hbk ⊢
          walk_at "rd"
          refine r_slB (i := b) (j := i + 1) rfl (by omega) (by omega) (by omega) (imm (R := RwV K) (.ex eH) ⟨a, xs, rfl, ha, hx⟩) fun u2 H2 e2 hu2 => ?_
          walk_at "rd"
          refine r_small nsz fun p3 hp3 => ?_
          obtain ⟨H3, k3, e3, h3⟩ := new1 hp3 (.tup [V.int (j : Nat), V.int (b : Nat), u2])
          rw [← k3]
          have e23 := e2.trans e3
          have gr := e23 _ _ hr1
          have y0 : 0 < ys.length := by rw [hys.len, f0]; simp
          walk_at "rd"
          refine r_setL (n := ys.length - 1) gr (by unfold ixN; rw [if_neg (by decide), if_pos (by omega)]; exact congrArg some (by omega)) ?_
          walk_at "rd"
          have tc : Tk H3 (upd H3 r (.lst (ys.set (ys.length - 1) (.ref p3)))) := .put gr
          refine ⟨_, _, _, by rw [show opn (alike A B) (i + 1) = V.int (b : Nat) from by unfold opn; rw [f2, if_pos (by omega)]]; rfl, Same.mut (eH.trans e23) hr0, upd_same, ?_⟩
          rw [f0, List.map_append] at hys
          rw [f1, List.map_append]
          refine p2_last (p2_imm tc (p2_imm (.ex e23) hys)) (imm (R := StV K) tc ?_)
          exact ⟨p3, u2, rfl, .inl h3, imm (R := RwV K) (.ex e3) hu2⟩
        · obtain ⟨f1, f2⟩ := fin_new hal hbk
          rw [show opn (alike A B) i = V.non from if_neg hbk]
          walk_at "rd"
          refine r_tyL (sqL hr1) ?_
          walk_at "rd"
          refine r_small nsz fun p2 hp2 => ?_
          obtain ⟨H2, k2, e2, h2⟩ := new1 hp2 (.tup [x])
          rw [← k2]
          walk_at "rd"
          refine r_small nsz fun p3 hp3 => ?_
          obtain ⟨H3, k3, e3, h3⟩ := new1 hp3 (.tup [V.int (j : Nat), V.int (i : Nat), .ref p2])
          rw [← k3]
          have e23 := e2.trans e3
          have gr := e23 _ _ hr1
          walk_at "rd"
          refine r_app gr (by rw [sizeLine_eq]; omega) ?_
          walk_at "rd"
          have tc : Tk H3 (upd H3 r (.lst (ys ++ [.ref p3]))) := .put gr
          refine ⟨_, _, _, by rw [show opn (alike A B) (i + 1) = V.int (i : Nat) from by unfold opn; rw [f2, if_pos (Nat.lt_succ_self _)]]; rfl, Same.mut (eH.trans e23) hr0, upd_same, ?_⟩
          rw [f1, List.map_append]
          refine (p2_imm tc (p2_imm (.ex e23) hys)).snoc (imm (R := StV K) tc ?_)
          refine ⟨p3, .ref p2, rfl, .inl h3, ⟨p2, [x], rfl, .inl (e3 _ _ h2), ?_⟩⟩
          show P2 _ _ (cutOf B (i, i + 1))
          rw [cut_one ht]
          exact .cons (imm (R := TlV K) (.ex e23) hxt1) .nil
    · obtain ⟨y5, y6, ys, rfl, e, hr1, hys⟩ := hP
      walk_at "rd"
      exact q r _ e ⟨ys, hr1, by rw [hx.len] at hys; exact hys⟩
end
end K63

set_option maxHeartbeats 400000
namespace K63
open PySem PySem.Spec PyProof.Rows L2 Dk Q61 Wd M63
/-- one step of a reading -/
local macro_rules | `(tactic| walk_at "rd1") => `(tactic| first
  | ((with_reducible refine r_var (v := ?rv) ?rh ?_); (case rh => rfl))
  | with_reducible refine r_c ?_
  | with_reducible refine r_seq ?_
  | with_reducible refine r_asg ?_
  | with_reducible refine r_par ?_
  | with_reducible refine r_gname ?_
  | with_reducible refine r_op ?_
  | with_reducible refine r_forLo ?_
  | with_reducible refine r_forTo ?_
  | with_reducible refine r_forSo ?_
  | with_reducible refine r_forRo ?_
  | with_reducible refine r_forRvo ?_
  | with_reducible refine r_forZo ?_
  | with_reducible refine r_revS ?_
  | with_reducible refine r_lcRo ?_
  | with_reducible refine r_lcLo ?_
  | with_reducible refine r_yes ?_
  | with_reducible refine r_callK0 ?_
  | with_reducible refine r_break ?_
  | with_reducible refine r_continue ?_
  | with_reducible refine r_forR2o ?_
  | with_reducible refine r_forEo ?_
  | with_reducible refine r_forESo ?_
  | with_reducible refine r_xfo ?_
  | with_reducible refine r_noP ?_
  | with_reducible refine r_part ?_
  | with_reducible refine r_pI ?_
  | with_reducible refine r_gcons ?_
  | with_reducible refine r_gnil ?_
  | with_reducible refine r_mkO ?_
  | with_reducible refine r_un ?_
  | with_reducible refine r_addI ?_
  | with_reducible refine r_I0 ?_
  | with_reducible refine r_U ?_
  | with_reducible refine r_cons ?_
  | with_reducible refine r_nil ?_
  | with_reducible refine r_CB ?_
  | with_reducible refine r_call ?_
  | with_reducible refine r_callS ?_
  | with_reducible refine r_int ?_
  | with_reducible refine r_max ?_
  | with_reducible refine r_min ?_
  | with_reducible refine r_test ?_
  | with_reducible refine r_B ?_
  | with_reducible refine r_blv ?_
  | with_reducible refine r_and ?_
  | with_reducible refine r_or ?_
  | with_reducible refine r_not ?_
  | with_reducible refine r_andV ?_
  | with_reducible refine r_orV ?_
  | with_reducible refine r_notV ?_
  | with_reducible refine r_ifE ?_
  | with_reducible refine r_ifS ?_
  | with_reducible refine r_ret ?_
  | with_reducible refine r_retN ?_
  | with_reducible refine r_drop ?_
  | with_reducible refine r_next ?_
  | with_reducible refine r_sl ?_
  | with_reducible refine r_gsub ?_
  | with_reducible refine r_bm ?_
  | with_reducible refine r_bm0 ?_
  | with_reducible refine r_tup ?_
  | with_reducible refine r_lst ?_
  | with_reducible refine r_isN ?_
  | with_reducible refine r_notN ?_
  | with_reducible refine r_chain ?_
  | with_reducible refine r_callK ?_
  | with_reducible refine r_isB ?_
  | with_reducible refine r_lcEio ?_
  | with_reducible refine r_forEi ?_
  | with_reducible refine r_lcTo ?_
  | with_reducible refine r_lcSo ?_
  | with_reducible refine r_m1 ?_
  | with_reducible refine r_dget ?_
  | with_reducible refine r_din ?_
  | with_reducible refine r_dnotin ?_
  | with_reducible refine Tc.r_inC ?_
  | with_reducible refine Tc.r_getC ?_
  | with_reducible refine r_starC ?_
  | with_reducible refine r_callKS ?_
  | with_reducible refine Dk.r_fld ?_
  | with_reducible refine Dk.r_forNo ?_
  | with_reducible refine Dk.r_lcR2o ?_
  | with_reducible refine Dk.r_dcE ?_
  | with_reducible refine Dk.r_gsliT ?_
  | with_reducible refine Dk.r_dcTo ?_
  | with_reducible refine Dk.r_sfld ?_
  | with_reducible refine Dk.r_meth ?_
  | with_reducible refine Dk.r_methK ?_
  | with_reducible refine Dk.r_methT ?_
  | with_reducible refine Dk.r_makeK ?_
  | with_reducible refine r_itt ?_
  | with_reducible refine r_iff ?_
  | with_reducible refine r_ittN ?_
  | with_reducible refine r_iffN ?_
  | ((with_reducible refine r_ittD ?rh ?_); (case rh => rfl))
  | ((with_reducible refine r_iffD ?rh ?_); (case rh => rfl))
  | ((with_reducible refine r_modP ?rh ?_); (case rh => decide))
  | ((with_reducible refine r_eq ?rh ?_); (case rh => rfl))
  | ((with_reducible refine r_eqP ?rh ?_); (case rh => rfl))
  | ((with_reducible refine r_ne ?rh ?_); (case rh => rfl)))
local macro_rules | `(tactic| walk_at "rd") => `(tactic| repeat walk_at "rd1")
local macro_rules | `(tactic| walk_at "isi") => `(tactic| first | refine r_isi (b := true) (by assumption) (by decide +kernel) ?_ | refine r_isi (b := false) (by assumption) (by decide +kernel) ?_)
local macro_rules | `(tactic| walk_at "rs1") => `(tactic| first
  | with_reducible refine r_seq ?_
  | with_reducible refine r_asg ?_
  | with_reducible refine r_gname ?_
  | with_reducible refine r_ret ?_)
local macro_rules | `(tactic| walk_at "rs") => `(tactic| repeat walk_at "rs1")

def spPaints (K : PySem.W.Frag) : Sp := fun vs H Q _ => ∃ (o n : V) (A B : List (List Til)) (w : Nat), vs = [o, n] ∧ ScV K H o A ∧ ScV K H n B ∧ A.length = B.length ∧ B.length ≤ 100 ∧ Wide w A ∧ Wide w B ∧ w ≤ 100 ∧ ∀ v H', Ex H H' → TupV K (StV K) H' v (due A B) → Q v H'
theorem dueRow_len {j : Nat} {o n : List Til} (h : n.length ≤ 100) : (dueRow j o n).length ≤ 100 := by
  rw [dueRow_eq, List.length_map]
  exact Nat.le_trans (fin_le _) h
theorem dueTo_len {A B : List (List Til)} {w : Nat} (hB : Wide w B) (hw : w ≤ 100) : ∀ j, (dueTo A B j).length ≤ 100 * j
  | 0 => Nat.le_refl _
  | j + 1 => by
    have ih := dueTo_len (A := A) hB hw j
    rw [dueTo, List.length_append]
    have : (B.getD j []).length ≤ 100 := by
      rw [List.getD_eq_getElem?_getD]
      cases e : B[j]? with
      | none => exact Nat.zero_le _
      | some b => have := hB b (List.mem_of_getElem? e); show b.length ≤ 100; omega
    have := dueRow_len (j := j) (o := A.getD j []) this
    omega
theorem dueTo_succ {A B : List (List Til)} {j : Nat} {a b : List Til} (ha : A[j]? = some a) (hb : B[j]? = some b) : dueTo A B (j + 1) = dueTo A B j ++ dueRow j a b := by
  rw [dueTo, List.getD_eq_getElem?_getD, List.getD_eq_getElem?_getD, ha, hb]
  rfl
/-! ### a grid of lists -/
structure Grid (K : PySem.W.Frag) (H0 H : Hp) (as : List Addr) (S : List (List Til)) : Prop where
  len : as.length = S.length
  nd : as.Nodup
  no : ∀ a ∈ as, H0 a = none
  at_ : ∀ (i : Nat) (a : Addr) (r : List Til), as[i]? = some a → S[i]? = some r → ∃ xs, H a = some (.lst xs) ∧ P2 (TlV K H) xs r
section
variable {K : PySem.W.Frag} {H0 H H' : Hp} {as : List Addr} {S : List (List Til)} {a D : Addr} {r r' : List Til} {xs ys : List V} {i : Nat}
theorem Grid.up (e : Ex H H') (g : Grid K H0 H as S) : Grid K H0 H' as S := ⟨g.len, g.nd, g.no, fun i a r h1 h2 => by
  obtain ⟨xs, h3, h4⟩ := g.at_ i a r h1 h2
  exact ⟨xs, e _ _ h3, p2_imm (.ex e) h4⟩⟩
theorem Grid.is (g : Grid K H0 H as S) (h : a ∈ as) : ∃ xs, H a = some (.lst xs) := by
  obtain ⟨i, hi, rfl⟩ := List.mem_iff_getElem.mp h
  obtain ⟨xs, h3, _⟩ := g.at_ i _ _ (List.getElem?_eq_getElem hi) (List.getElem?_eq_getElem (by rw [← g.len]; exact hi))
  exact ⟨xs, h3⟩
theorem Grid.off {o : HO} (g : Grid K H0 H as S) (hD : D ∉ as) (t : Tk H (upd H D o)) : Grid K H0 (upd H D o) as S := ⟨g.len, g.nd, g.no, fun i a r h1 h2 => by
  obtain ⟨xs, h3, h4⟩ := g.at_ i a r h1 h2
  exact ⟨xs, by rw [upd_ne (show a ≠ D from fun z => hD (z ▸ List.mem_of_getElem? h1))]; exact h3, p2_imm t h4⟩⟩
theorem Grid.snoc (g : Grid K H0 H as S) (ha : H a = none) (h0 : H0 a = none) (hx : P2 (TlV K H) xs r) : Grid K H0 (upd H a (.lst xs)) (as ++ [a]) (S ++ [r]) := by
  have e := Same.new (Same.refl H) (o := .lst xs) ha
  have g' := g.up e
  have hn : a ∉ as := fun z => by
    obtain ⟨ys, h⟩ := g.is z
    rw [ha] at h; cases h
  refine ⟨by rw [List.length_append, List.length_append, g.len]; rfl, ?_, fun b hb => ?_, fun i b r2 h1 h2 => ?_⟩
  · rw [List.nodup_append]
    exact ⟨g.nd, List.pairwise_singleton _ a, fun x hx y hy => by cases List.mem_singleton.mp hy; exact fun z => hn (z ▸ hx)⟩
  · rcases List.mem_append.mp hb with h | h
    · exact g.no b h
    · cases List.mem_singleton.mp h; exact h0
  · rcases Nat.lt_or_ge i as.length with hl | hl
    · rw [List.getElem?_append_left hl] at h1
      rw [List.getElem?_append_left (by rw [← g.len]; exact hl)] at h2
      exact g'.at_ i b r2 h1 h2
    · rw [List.getElem?_append_right hl] at h1
      rw [List.getElem?_append_right (by rw [← g.len]; exact hl)] at h2
      have h1' := List.mem_singleton.mp (List.mem_of_getElem? h1)
      have h2' := List.mem_singleton.mp (List.mem_of_getElem? h2)
      subst h1' h2'
      exact ⟨xs, upd_same, p2_imm (.ex e) hx⟩
theorem Grid.put (g : Grid K H0 H as S) (h1 : as[i]? = some a) (h2 : S[i]? = some r) (hy : P2 (TlV K H) ys r') : Grid K H0 (upd H a (.lst ys)) as (S.set i r') := by
  obtain ⟨xs, h3, _⟩ := g.at_ i a r h1 h2
  have t : Tk H (upd H a (.lst ys)) := .put h3
  have hi : i < S.length := (List.getElem?_eq_some_iff.mp h2).1
  refine ⟨by rw [List.length_set]; exact g.len, g.nd, g.no, fun j b r2 g1 g2 => ?_⟩
  rw [List.getElem?_set] at g2
  by_cases e : i = j
  · subst e
    rw [if_pos rfl, if_pos hi] at g2
    rw [h1] at g1
    cases g1; cases g2
    exact ⟨ys, upd_same, p2_imm t hy⟩
  · rw [if_neg e] at g2
    obtain ⟨zs, g3, g4⟩ := g.at_ j b r2 g1 g2
    have nb : b ≠ a := fun z => by
      subst z
      obtain ⟨i1, e1⟩ := List.getElem?_eq_some_iff.mp h1
      obtain ⟨j1, e2⟩ := List.getElem?_eq_some_iff.mp g1
      rcases Nat.lt_or_gt_of_ne e with q | q
      · exact List.pairwise_iff_getElem.mp g.nd i j i1 j1 q (e1.trans e2.symm)
      · exact List.pairwise_iff_getElem.mp g.nd j i j1 i1 q (e2.trans e1.symm)
    exact ⟨zs, by rw [upd_ne nb]; exact g3, p2_imm t g4⟩
end
def spPainted (K : PySem.W.Frag) : Sp := fun vs H Q _ => ∃ (o s : V) (A : List (List Til)) (L : List (Stk Til)) (w : Nat), vs = [o, s] ∧ ScV K H o A ∧ TupV K (StV K) H s L ∧ A.length ≤ 100 ∧ Wide w A ∧ w ≤ 100 ∧ (∀ s ∈ L, OkS A s) ∧ ∀ v H', Ex H H' → ScV K H' v (paint A L) → Q v H'
section
variable {P : Program} {w : World} {K : PySem.W.Frag} {mg : Str → Option Value} {base : Heap}
theorem ok_paints (T : Txt K mg) : FnOk P w K mg base CX0 2 T.a_paints T.d_paints ["old", "new"] (spPaints K) := by
  refine T.F_paints.ok sc_paints (fun vs H Q E h => ?_) (fun cdv A outer s H vs Q E hr h => ?_)
  · obtain ⟨o, n, A, B, w, rfl, _⟩ := h
    rfl
  · obtain ⟨o, n, A, B, wd, rfl, ho, hn, hl, hb, wA, wB, w1, q⟩ := h
    refine ⟨_, (pss_cons (ps_set (i := 2) sc_paints.nd rfl (Or.inl rfl) (pe_lst pa_nil))
        (pss_cons (ps_for PassesOwn.never rfl (pi_enumT (by rfl) T.n_enumerate (pa_cons (pv 1) pa_nil)) (pg_tup rfl (pgs_cons (pg_name (i := 3) sc_paints.nd rfl (Or.inl rfl)) (pgs_cons (pg_name (i := 4) sc_paints.nd rfl (Or.inl rfl)) pgs_nil))) (pss_one (ps_expr (pe_bm PySem.F.plainAttrs_list PySem.F.slot_list_extend PySem.F.type_list_extend mt_extend (pv 2) (pa_cons (pe_call (ok_row_paints T) hr (by rfl) T.g_row_paints T.F_row_paints.kp T.b_row_paints .nil pass0 (pa_cons (pv 3) (pa_cons (pe_ix ix_seq (pv 0) (pv 3) (fun _ _ => rfl)) (pa_cons (pv 4) pa_nil)))) pa_nil)))))
        (pss_one (ps_ret (pe_callTy call_tupU (by rfl) T.n_tuple (by decide +kernel) (pa_cons (pv 2) pa_nil)))))), ?_⟩
    walk_at "rd"
    refine r_small nsz fun r hr0 => ?_
    obtain ⟨H0, k0, e0, h0⟩ := new1 hr0 (.lst [])
    rw [← k0]
    walk_at "rd"
    obtain ⟨a, xs, rfl, ha, hx⟩ := hn
    refine l_E (ha.up e0).sq (fun i σ H' => ∃ y3 y4, σ = [some o, some (.ref a), some (.ref r), y3, y4] ∧ Ex H H' ∧ StL K H' r (dueTo A B i)) ⟨none, none, rfl, e0, [], h0, .nil⟩ (fun i σ H' hP => ?_) (fun i x σ H' p hxi hP hp => ?_) (fun σ H' hP => ?_)
    · obtain ⟨_, _, _, e, _⟩ := hP
      exact (ha.up e).sq
    · obtain ⟨y3, y4, rfl, e, ys, hr1, hys⟩ := hP
      obtain ⟨H1, k1, e1, h1⟩ := new1 hp (.tup [.int (i : Nat), x])
      rw [← k1]
      obtain ⟨b, hbi, hxb⟩ := hx.get hxi
      have il := (List.getElem?_eq_some_iff.mp hbi).1
      obtain ⟨a2, ha2⟩ : ∃ a2, A[i]? = some a2 := ⟨_, List.getElem?_eq_getElem (by omega)⟩
      have eH := e.trans e1
      have lb := wB b (List.mem_of_getElem? hbi)
      have la := wA a2 (List.mem_of_getElem? ha2)
      walk_at "rd"
      refine r_gtup (sqT h1) rfl ?_
      walk_at "rd"
      refine r_tyL (sqL (e1 _ _ hr1)) ?_
      walk_at "rd"
      refine r_ixTV (imm (R := ScV K) (.ex eH) ho) ha2 fun u hu => ?_
      walk_at "rd"
      refine ⟨i, u, x, a2, b, rfl, hu, imm (R := RwV K) (.ex eH) hxb, by omega, by omega, fun l H2 e2 hl2 => ?_⟩
      obtain ⟨zs, hz1, hz2⟩ := hl2
      walk_at "rd"
      have gr := e2 _ _ (e1 _ _ hr1)
      have yl : ys.length ≤ 100 * i := by rw [hys.len]; exact dueTo_len wB w1 i
      have zl : zs.length ≤ 100 := by rw [hz2.len]; exact dueRow_len (by omega)
      have tc : Tk H2 (upd H2 r (.lst (ys ++ zs))) := .put gr
      refine ⟨r, l, ys, zs, rfl, rfl, gr, hz1, by rw [sizeLine_eq]; omega, ?_⟩
      walk_at "rd"
      refine ⟨_, _, rfl, Same.mut (eH.trans e2) hr0, _, upd_same, ?_⟩
      rw [dueTo_succ ha2 hbi]
      exact (p2_imm tc (p2_imm (.ex (e1.trans e2)) hys)).app (p2_imm tc hz2)
    · obtain ⟨y3, y4, rfl, e, ys, hr1, hys⟩ := hP
      rw [hx.len] at hys
      walk_at "rd"
      refine r_tupLV hr1 hys fun p6 H6 hp6 e6 hT => ?_
      exact q _ _ (e.trans e6) hT
theorem ok_painted (T : Txt K mg) : FnOk P w K mg base CX0 1 T.a_painted T.d_painted ["old", "runs"] (spPainted K) := by
  refine T.F_painted.ok sc_painted (fun vs H Q E h => ?_) (fun cdv A outer s H vs Q E hr h => ?_)
  · obtain ⟨o, s, A, L, w, rfl, _⟩ := h
    rfl
  · obtain ⟨o, s, A, L, wd, rfl, ho, hs, al, wA, w1, hok, q⟩ := h
    refine ⟨_, (pss_cons (ps_setLc (i := 3) (own := [("tiles", 2)]) (g := (gName 2)) rfl sc_painted.nd rfl rfl (sw_true rfl rfl rfl (by decide +kernel)) (pi_tup (pv 0)) (blkOk_by (N := N_painted) (sc := defScope s_painted) (by decide +kernel)) (fun _ _ _ _ _ => pg_name (i := 2) sc_painted.nd rfl (Or.inl rfl)) (fun _ _ _ _ _ => pts_nil) (fun _ _ _ _ _ => (pe_callTy (k_list (K := K) rfl) (by rfl) T.n_list (by decide +kernel) (pa_cons (pv 2) pa_nil))))
        (pss_cons (ps_for PassesOwn.never rfl (pi_tup (pv 1)) (pg_tup rfl (pgs_cons (pg_name (i := 4) sc_painted.nd rfl (Or.inl rfl)) (pgs_cons (pg_name (i := 5) sc_painted.nd rfl (Or.inl rfl)) (pgs_cons (pg_name (i := 2) sc_painted.nd rfl (Or.inl rfl)) pgs_nil)))) (pss_one (ps_asg (pv 2) (Dk.pg_sliT (pe_ix ix_seq (pv 3) (pv 4) (fun _ _ => rfl)) (po_some (pv 5)) (po_some (pe_op op_addU (pv 5) (pe_callB call_lenU (by rfl) T.n_len (by decide +kernel) (pa_cons (pv 2) pa_nil))))))))
        (pss_one (ps_ret (pe_callTy call_tupU (by rfl) T.n_tuple (by decide +kernel) (pa_cons (pe_lc (own := [("tiles", 2)]) (g := gName 2) rfl sc_painted.nd (pi_list (pv 3)) (blkOk_by (N := N_painted) (sc := defScope s_painted) (by decide +kernel)) (fun _ _ _ _ _ => pg_name (i := 2) sc_painted.nd rfl (Or.inl rfl)) (fun _ _ _ _ _ => pts_nil) (fun _ _ _ _ _ => (pe_callTy (k_tup (K := K) rfl) (by rfl) T.n_tuple (by decide +kernel) (pa_cons (pv 2) pa_nil)))) pa_nil)))))), ?_⟩
    walk_at "rd"
    obtain ⟨a, xs, rfl, ha, hx⟩ := ho
    obtain ⟨c, ss, rfl, hc, hss⟩ := hs
    refine l_lcT ha.sq (fun D i H2 => Ex H H2 ∧ ∃ as, H2 D = some (.lst (as.map V.ref)) ∧ D ∉ as ∧ Grid K H H2 as (A.take i)) (fun D hD => ⟨Same.new (Same.refl _) hD, [], upd_same, (fun z => nomatch z), ⟨rfl, .nil, fun _ z => (nomatch z), fun _ _ _ z => (nomatch z)⟩⟩) (fun D i H2 hP => (ha.up hP.1).sq) (fun D i x H2 hD hxi hP => ?_) (fun D H2 hD hP => ?_)
    · obtain ⟨e2, as, g2, nD, gr⟩ := hP
      obtain ⟨rw, hrw, hxr⟩ := hx.get hxi
      have il := (List.getElem?_eq_some_iff.mp hrw).1
      obtain ⟨b, bs, rfl, hb, hbs⟩ := imm (R := RwV K) (.ex e2) hxr
      walk_at "rd"
      refine ⟨rfl, ?_⟩
      walk_at "rd"
      refine r_listT hb.sq fun l hl => ?_
      have l0 : H l = none := e2.free hl
      have gr2 := gr.snoc hl l0 hbs
      have e3 := Same.new (Same.refl H2) (o := .lst bs) hl
      have nl : D ≠ l := fun z => by rw [← z, g2] at hl; cases hl
      have asl := gr.len
      rw [List.length_take] at asl
      have g3 := e3 _ _ g2
      refine ⟨as.map V.ref, g3, by rw [List.length_map, sizeLine_eq]; omega, Same.mut (e2.trans e3) hD, as ++ [l], by rw [upd_same, List.map_append]; rfl, fun z => ?_, ?_⟩
      · rcases List.mem_append.mp z with z | z
        · exact nD z
        · exact nl (List.mem_singleton.mp z)
      · rw [List.take_add_one, hrw]
        exact gr2.off (fun z => by
          rcases List.mem_append.mp z with z | z
          · exact nD z
          · exact nl (List.mem_singleton.mp z)) (.put g3)
    · obtain ⟨e2, as, g2, nD, gr⟩ := hP
      rw [hx.len, List.take_length] at gr
      walk_at "rd"
      refine l_T (hc.up e2).sq (fun i σ H' => ∃ y2 y4 y5, σ = [some (.ref a), some (.ref c), y2, some (.ref D), y4, y5] ∧ Ex H H' ∧ H' D = some (.lst (as.map V.ref)) ∧ Grid K H H' as (paint A (L.take i))) ⟨_, _, _, rfl, e2, g2, gr⟩ (fun i σ H' hP => ?_) (fun i x σ H' hxi hP => ?_) (fun σ H' hP => ?_)
      · obtain ⟨_, _, _, _, e, _⟩ := hP
        exact (hc.up e).sq
      · obtain ⟨y2, y4, y5, rfl, e, gD, gr⟩ := hP
        obtain ⟨sk, hsk, hxs⟩ := hss.get hxi
        obtain ⟨p, u, rfl, hp, hu⟩ := imm (R := StV K) (.ex e) hxs
        have hok2 := paint_ok (fun s hs => hok s (List.mem_of_mem_take hs)) (hok sk (List.mem_of_getElem? hsk)) (L := L.take i)
        obtain ⟨r, hr1, hr2⟩ := hok2
        have wP := wide_paint wA (fun s hs => hok s (List.mem_of_mem_take hs)) (L := L.take i) r (List.mem_of_getElem? hr1)
        obtain ⟨b, ts, rfl, hb, hts⟩ := hu
        have jl : sk.1 < as.length := by rw [gr.len]; exact (List.getElem?_eq_some_iff.mp hr1).1
        obtain ⟨ad, had⟩ : ∃ ad, as[sk.1]? = some ad := ⟨_, List.getElem?_eq_getElem jl⟩
        obtain ⟨zs, hz1, hz2⟩ := gr.at_ _ _ _ had hr1
        walk_at "rd"
        refine r_gtup hp.sq rfl ?_
        walk_at "rd"
        refine r_ixL (sqL gD) (atI_nat (by rw [List.getElem?_map, had]; rfl)) ?_
        walk_at "rd"
        refine r_lenT hb.sq ?_
        walk_at "rd"
        have zl := hz2.len
        have tl := hts.len
        refine ⟨ad, b, zs, ts, (sk.2.1 : Nat), ((sk.2.1 + ts.length : Nat) : Int), rfl, rfl, rfl, by rw [Int.natCast_add], hz1, hb.sq, by omega, by omega, by omega, by rw [sizeLine_eq]; omega, ?_⟩
        rw [Int.toNat_natCast, Int.toNat_natCast]
        have nDa : D ≠ ad := fun z => nD (z ▸ List.mem_of_getElem? had)
        walk_at "rd"
        refine ⟨_, _, _, rfl, Same.mut e (gr.no _ (List.mem_of_getElem? had)), by rw [upd_ne nDa]; exact gD, ?_⟩
        rw [paint_take hsk, one_some hr1]
        have hy : P2 (TlV K H') (zs.take sk.2.1 ++ ts ++ zs.drop (sk.2.1 + ts.length)) (put r sk.2.1 sk.2.2) := by
          unfold put
          rw [tl]
          exact ((hz2.take _).app hts).app (hz2.drop _)
        exact gr.put had hr1 hy
      · obtain ⟨y2, y4, y5, rfl, e, gD, gr⟩ := hP
        rw [hss.len, List.take_length] at gr
        walk_at "rd"
        refine l_lcL (sqL gD) (fun D2 i H2 => Ex H H2 ∧ Ex H' H2 ∧ ∃ zs, H2 D2 = some (.lst zs) ∧ P2 (RwV K H2) zs ((paint A L).take i)) (fun D2 hD2 => ⟨e.trans (Same.new (Same.refl _) hD2), Same.new (Same.refl _) hD2, [], upd_same, .nil⟩) (fun D2 i H2 hP => sqL (hP.2.1 _ _ gD)) (fun D2 i x H2 hD2 hxi hP => ?_) (fun D2 H2 hD2 hP => ?_)
        · obtain ⟨e2, e3, zs, gz, hz⟩ := hP
          rw [List.getElem?_map] at hxi
          obtain ⟨ad, had, rfl⟩ := Option.map_eq_some_iff.mp hxi
          have il := (List.getElem?_eq_some_iff.mp had).1
          have gl := gr.len
          obtain ⟨r, hr1⟩ : ∃ r, (paint A L)[i]? = some r := ⟨_, List.getElem?_eq_getElem (by omega)⟩
          obtain ⟨ys, hy1, hy2⟩ := (gr.up e3).at_ _ _ _ had hr1
          walk_at "rd"
          refine ⟨rfl, ?_⟩
          walk_at "rd"
          refine r_tupLV hy1 hy2 fun p6 H6 hp6 e6 hT => ?_
          have zl : zs.length ≤ 100 := by rw [hz.len, List.length_take, paint_len]; omega
          have tc : Tk H6 (upd H6 D2 (.lst (zs ++ [.ref p6]))) := .put (e6 _ _ gz)
          refine ⟨zs, e6 _ _ gz, by rw [sizeLine_eq]; omega, Same.mut (e2.trans e6) (e.free hD2), Same.mut (e3.trans e6) hD2, _, upd_same, ?_⟩
          rw [List.take_add_one, hr1]
          exact (p2_imm tc (p2_imm (.ex e6) hz)).snoc (imm (R := RwV K) tc hT)
        · obtain ⟨e2, e3, zs, gz, hz⟩ := hP
          rw [List.length_map, gr.len, List.take_length] at hz
          walk_at "rd"
          refine r_tupLV gz hz fun p6 H6 hp6 e6 hT => ?_
          exact q _ _ (e2.trans e6) hT
end
end K63

set_option maxHeartbeats 400000
namespace K63
open PySem PySem.Spec PyProof.Rows L2 Dk Q61 Wd M63
/-- one step of a reading -/
local macro_rules | `(tactic| walk_at "rd1") => `(tactic| first
  | ((with_reducible refine r_var (v := ?rv) ?rh ?_); (case rh => rfl))
  | with_reducible refine r_c ?_
  | with_reducible refine r_seq ?_
  | with_reducible refine r_asg ?_
  | with_reducible refine r_par ?_
  | with_reducible refine r_gname ?_
  | with_reducible refine r_op ?_
  | with_reducible refine r_forLo ?_
  | with_reducible refine r_forTo ?_
  | with_reducible refine r_forSo ?_
  | with_reducible refine r_forRo ?_
  | with_reducible refine r_forRvo ?_
  | with_reducible refine r_forZo ?_
  | with_reducible refine r_revS ?_
  | with_reducible refine r_lcRo ?_
  | with_reducible refine r_lcLo ?_
  | with_reducible refine r_yes ?_
  | with_reducible refine r_callK0 ?_
  | with_reducible refine r_break ?_
  | with_reducible refine r_continue ?_
  | with_reducible refine r_forR2o ?_
  | with_reducible refine r_forEo ?_
  | with_reducible refine r_forESo ?_
  | with_reducible refine r_xfo ?_
  | with_reducible refine r_noP ?_
  | with_reducible refine r_part ?_
  | with_reducible refine r_pI ?_
  | with_reducible refine r_gcons ?_
  | with_reducible refine r_gnil ?_
  | with_reducible refine r_mkO ?_
  | with_reducible refine r_un ?_
  | with_reducible refine r_addI ?_
  | with_reducible refine r_I0 ?_
  | with_reducible refine r_U ?_
  | with_reducible refine r_cons ?_
  | with_reducible refine r_nil ?_
  | with_reducible refine r_CB ?_
  | with_reducible refine r_call ?_
  | with_reducible refine r_callS ?_
  | with_reducible refine r_int ?_
  | with_reducible refine r_max ?_
  | with_reducible refine r_min ?_
  | with_reducible refine r_test ?_
  | with_reducible refine r_B ?_
  | with_reducible refine r_blv ?_
  | with_reducible refine r_and ?_
  | with_reducible refine r_or ?_
  | with_reducible refine r_not ?_
  | with_reducible refine r_andV ?_
  | with_reducible refine r_orV ?_
  | with_reducible refine r_notV ?_
  | with_reducible refine r_ifE ?_
  | with_reducible refine r_ifS ?_
  | with_reducible refine r_ret ?_
  | with_reducible refine r_retN ?_
  | with_reducible refine r_drop ?_
  | with_reducible refine r_next ?_
  | with_reducible refine r_sl ?_
  | with_reducible refine r_gsub ?_
  | with_reducible refine r_bm ?_
  | with_reducible refine r_bm0 ?_
  | with_reducible refine r_tup ?_
  | with_reducible refine r_lst ?_
  | with_reducible refine r_isN ?_
  | with_reducible refine r_notN ?_
  | with_reducible refine r_chain ?_
  | with_reducible refine r_callK ?_
  | with_reducible refine r_isB ?_
  | with_reducible refine r_lcEio ?_
  | with_reducible refine r_forEi ?_
  | with_reducible refine r_lcTo ?_
  | with_reducible refine r_lcSo ?_
  | with_reducible refine r_m1 ?_
  | with_reducible refine r_dget ?_
  | with_reducible refine r_din ?_
  | with_reducible refine r_dnotin ?_
  | with_reducible refine Tc.r_inC ?_
  | with_reducible refine Tc.r_getC ?_
  | with_reducible refine r_starC ?_
  | with_reducible refine r_callKS ?_
  | with_reducible refine Dk.r_fld ?_
  | with_reducible refine Dk.r_forNo ?_
  | with_reducible refine Dk.r_lcR2o ?_
  | with_reducible refine Dk.r_dcE ?_
  | with_reducible refine Dk.r_gsliT ?_
  | with_reducible refine Dk.r_dcTo ?_
  | with_reducible refine Dk.r_sfld ?_
  | with_reducible refine Dk.r_meth ?_
  | with_reducible refine Dk.r_methK ?_
  | with_reducible refine Dk.r_methT ?_
  | with_reducible refine Dk.r_makeK ?_
  | with_reducible refine r_itt ?_
  | with_reducible refine r_iff ?_
  | with_reducible refine r_ittN ?_
  | with_reducible refine r_iffN ?_
  | ((with_reducible refine r_ittD ?rh ?_); (case rh => rfl))
  | ((with_reducible refine r_iffD ?rh ?_); (case rh => rfl))
  | ((with_reducible refine r_modP ?rh ?_); (case rh => decide))
  | ((with_reducible refine r_eq ?rh ?_); (case rh => rfl))
  | ((with_reducible refine r_eqP ?rh ?_); (case rh => rfl))
  | ((with_reducible refine r_ne ?rh ?_); (case rh => rfl)))
local macro_rules | `(tactic| walk_at "rd") => `(tactic| repeat walk_at "rd1")
local macro_rules | `(tactic| walk_at "isi") => `(tactic| first | refine r_isi (b := true) (by assumption) (by decide +kernel) ?_ | refine r_isi (b := false) (by assumption) (by decide +kernel) ?_)
local macro_rules | `(tactic| walk_at "rs1") => `(tactic| first
  | with_reducible refine r_seq ?_
  | with_reducible refine r_asg ?_
  | with_reducible refine r_gname ?_
  | with_reducible refine r_ret ?_)
local macro_rules | `(tactic| walk_at "rs") => `(tactic| repeat walk_at "rs1")

theorem alike_end {o n : List Til} {k : Nat} (h1 : o.length ≤ k) (h2 : n.length ≤ k) : alike o n k = true := by
  unfold alike
  rw [List.getElem?_eq_none h1, List.getElem?_eq_none h2]
  exact decide_eq_true rfl
theorem due_end {j : Nat} {o n : List Til} (hl : o.length = n.length) : (dlc (alike o n) (n.length + 1)).map (stk j n) = dueRow j o n := by
  rw [(dl_yes (alike_end (by omega) (Nat.le_refl _))).1, dueRow_eq]
theorem dlc_le {e : Nat → Bool} {k : Nat} : (dlc e k).length ≤ k := by
  have := fin_le (e := e) k
  unfold fin at this
  rw [List.length_append] at this
  omega
/-- one more sign of a row is looked at -/
theorem dlc_step {e : Nat → Bool} {k : Nat} (h : e k = true) : (dlb e k < k → dlc e (k + 1) = dlc e k ++ [(dlb e k, k)]) ∧ (¬ dlb e k < k → dlc e (k + 1) = dlc e k) := by
  rw [(dl_yes h).1]
  unfold fin
  exact ⟨fun z => by rw [if_pos z], fun z => by rw [if_neg z, List.append_nil]⟩
theorem p2_set {α : Type} {R : V → α → Prop} {v : V} {x : α} : ∀ {xs : List V} {l : List α}, P2 R xs l → R v x → ∀ {i : Nat}, P2 R (xs.set i v) (l.set i x)
  | _, _, .nil, _, _ => .nil
  | _, _, .cons h t, hv, 0 => .cons hv t
  | _, _, .cons h t, hv, i + 1 => .cons h (p2_set t hv)
section
variable {P : Program} {w : World} {K : PySem.W.Frag} {mg : Str → Option Value} {base : Heap}
theorem ok_law_due (T : Txt K mg) : FnOk P w K mg base CX0 1 T.a_law_due T.d_law_due ["_law_one", "_law_other"] (spPaints K) := by
  refine T.F_law_due.ok sc_law_due (fun vs H Q E h => ?_) (fun cdv A outer s H vs Q E hr h => ?_)
  · obtain ⟨o, n, A, B, w, rfl, _⟩ := h
    rfl
  · obtain ⟨o, n, A, B, wd, rfl, ho, hn, hl, hb, wA, wB, w1, q⟩ := h
    refine ⟨_, (pss_cons (ps_set (i := 2) sc_law_due.nd rfl (Or.inl rfl) (pe_lst pa_nil))
        (pss_cons (ps_for PassesOwn.never rfl (pi_range1 (by rfl) T.n_range (pa_cons (pe_callB call_lenU (by rfl) T.n_len (by decide +kernel) (pa_cons (pv 0) pa_nil)) pa_nil)) (pg_name (i := 3) sc_law_due.nd rfl (Or.inl rfl)) (pss_cons (ps_set (i := 4) sc_law_due.nd rfl (Or.inl rfl) pe_int)
        (pss_one (ps_for PassesOwn.never rfl (pi_range1 (by rfl) T.n_range (pa_cons (pe_op op_addU (pe_callB call_lenU (by rfl) T.n_len (by decide +kernel) (pa_cons (pe_ix ix_seq (pv 0) (pv 3) (fun _ _ => rfl)) pa_nil)) pe_int) pa_nil)) (pg_name (i := 5) sc_law_due.nd rfl (Or.inl rfl)) (pss_one (ps_if (PW.pt (pw_or (pt_cmpR (op_eqU hr.units) (pv 5) (pe_callB call_lenU (by rfl) T.n_len (by decide +kernel) (pa_cons (pe_ix ix_seq (pv 0) (pv 3) (fun _ _ => rfl)) pa_nil)) (nomark _)) (pw_or1 (pt_cmpR (op_eqU hr.units) (pe_ix ix_seq (pe_ix ix_seq (pv 0) (pv 3) (fun _ _ => rfl)) (pv 5) (fun _ _ => rfl)) (pe_ix ix_seq (pe_ix ix_seq (pv 1) (pv 3) (fun _ _ => rfl)) (pv 5) (fun _ _ => rfl)) (nomark _))))) (pss_cons (ps_if (pt_cmpR op_lt (pv 4) (pv 5) (nomark _)) (pss_one (ps_expr (pe_bm PySem.F.plainAttrs_list PySem.F.slot_list_append PySem.F.type_list_append mt_append (pv 2) (pa_cons (pe_tup (pa_cons (pv 3) (pa_cons (pv 4) (pa_cons (pe_slice sl_U (pe_ix ix_seq (pv 1) (pv 3) (fun _ _ => rfl)) (po_some (pv 4)) (po_some (pv 5))) pa_nil)))) pa_nil)))) pss_nil)
        (pss_one (ps_set (i := 4) sc_law_due.nd rfl (Or.inl rfl) (pe_op op_addU (pv 5) pe_int)))) pss_nil))))))
        (pss_one (ps_ret (pe_callTy call_tupU (by rfl) T.n_tuple (by decide +kernel) (pa_cons (pv 2) pa_nil)))))), ?_⟩
    walk_at "rd"
    refine r_small nsz fun r hr0 => ?_
    obtain ⟨H0, k0, e0, h0⟩ := new1 hr0 (.lst [])
    rw [← k0]
    walk_at "rd"
    refine r_lenTV (imm (R := ScV K) (.ex e0) ho) ?_
    walk_at "rd"
    refine l_R (by omega) (by omega) (fun i σ H' => ∃ y3 y4 y5, σ = [some o, some n, some (.ref r), y3, y4, y5] ∧ Ex H H' ∧ StL K H' r (dueTo A B i)) ⟨none, none, none, rfl, e0, [], h0, .nil⟩ (fun j σ H' hj hP => ?_) (fun σ H' hP => ?_)
    · obtain ⟨y3, y4, y5, rfl, e, hr1⟩ := hP
      have jl : j < A.length := by omega
      obtain ⟨a, ha⟩ : ∃ a, A[j]? = some a := ⟨_, List.getElem?_eq_getElem jl⟩
      obtain ⟨b, hbj⟩ : ∃ b, B[j]? = some b := ⟨_, List.getElem?_eq_getElem (by omega)⟩
      have la := wA a (List.mem_of_getElem? ha)
      have lb := wB b (List.mem_of_getElem? hbj)
      have yl0 := dueTo_len (A := A) (B := B) wB w1 j
      walk_at "rd"
      refine r_ixTV (imm (R := ScV K) (.ex e) ho) ha fun u hu => ?_
      walk_at "rd"
      refine r_lenTV hu ?_
      walk_at "rd"
      refine l_R (by omega) (by omega) (fun k σ H' => ∃ y5, σ = [some o, some n, some (.ref r), some (.int (j : Nat)), some (.int (dlb (alike a b) k : Nat)), y5] ∧ Ex H H' ∧ StL K H' r (dueTo A B j ++ (dlc (alike a b) k).map (stk j b))) ⟨y5, rfl, e, by
        show StL K H' r (dueTo A B j ++ [])
        rw [List.append_nil]; exact hr1⟩ (fun k σ H' hk hP => ?_) (fun σ H' hP => ?_)
      · obtain ⟨y5, rfl, e, ys, hr1, hys⟩ := hP
        have yl : ys.length ≤ 100 * j + 100 := by
          rw [hys.len, List.length_append, List.length_map]
          have := dlc_le (e := alike a b) (k := k)
          omega
        have e1 : (decide (k = a.length) || alike a b k) = alike a b k := by
          by_cases z : k = a.length
          · rw [alike_end (by omega) (by omega), Bool.or_true]
          · rw [decide_eq_false z, Bool.false_or]
        walk_at "rs"
        refine r_ifS ?_
        refine r_orB (b1 := decide (k = a.length)) (b2 := alike a b k) (fun QB z => ?_) (fun hb1 QB z => ?_) ?_
        · walk_at "rd"
          refine r_ixTV (imm (R := ScV K) (.ex e) ho) ha fun u hu => ?_
          walk_at "rd"
          refine r_lenTV hu ?_
          walk_at "rd"
          have e2 : decide (V.int (k : Nat) = V.int (a.length : Nat)) = decide (k = a.length) := decide_eq_decide.mpr ⟨fun z => by injection z with z; omega, fun z => by rw [z]⟩
          rw [e2]
          exact z
        · have kl : k < a.length := by have := of_decide_eq_false hb1; omega
          obtain ⟨t, ht⟩ : ∃ t, a[k]? = some t := ⟨_, List.getElem?_eq_getElem kl⟩
          obtain ⟨t2, ht2⟩ : ∃ t2, b[k]? = some t2 := ⟨_, List.getElem?_eq_getElem (by omega)⟩
          walk_at "rd"
          refine r_ixTV (imm (R := ScV K) (.ex e) ho) ha fun u hu => ?_
          walk_at "rd"
          refine r_ixTV hu ht fun u2 hu2 => ?_
          walk_at "rd"
          refine r_ixTV (imm (R := ScV K) (.ex e) hn) hbj fun u3 hu3 => ?_
          walk_at "rd"
          refine r_ixTV hu3 ht2 fun u4 hu4 => ?_
          walk_at "rd"
          refine r_eqTl hu2 hu4 ?_
          have e2 : alike a b k = decide (t = t2) := by
            unfold alike
            rw [ht, ht2]
            exact decide_eq_decide.mpr ⟨fun z => (Option.some.inj z).symm, fun z => by rw [z]⟩
          rw [← e2]
          exact ⟨_, rfl, z⟩
        · rw [e1]
          cases hal : alike a b k with
          | false =>
            walk_at "rd"
            exact ⟨_, by rw [(dl_no hal).2]; rfl, e, ys, hr1, by rw [(dl_no hal).1]; exact hys⟩
          | true =>
            obtain ⟨s1, s2⟩ := dlc_step hal
            walk_at "rd"
            refine r_ite (fun g => ?_) (fun g => ?_)
            · have g : dlb (alike a b) k < k := by omega
              walk_at "rd"
              refine r_tyL (sqL hr1) ?_
              walk_at "rd"
              refine r_ixTV (imm (R := ScV K) (.ex e) hn) hbj fun u3 hu3 => ?_
              walk_at "rd"
              refine r_slB (i := dlb (alike a b) k) (j := k) rfl rfl (by omega) (by omega) hu3 fun u4 H2 e2 hu4 => ?_
              walk_at "rd"
              refine r_small nsz fun p3 hp3 => ?_
              obtain ⟨H3, k3, e3, h3⟩ := new1 hp3 (.tup [V.int (j : Nat), V.int (dlb (alike a b) k : Nat), u4])
              rw [← k3]
              have e23 := e2.trans e3
              have gr := e23 _ _ hr1
              walk_at "rd"
              refine r_app gr (by rw [sizeLine_eq]; omega) ?_
              walk_at "rd"
              have tc : Tk H3 (upd H3 r (.lst (ys ++ [.ref p3]))) := .put gr
              refine ⟨_, by rw [(dl_yes hal).2]; rfl, Same.mut (e.trans e23) hr0, _, upd_same, ?_⟩
              rw [s1 g, List.map_append, ← List.append_assoc]
              exact (p2_imm tc (p2_imm (.ex e23) hys)).snoc (imm (R := StV K) tc ⟨p3, u4, rfl, .inl h3, imm (R := RwV K) (.ex e3) hu4⟩)
            · have g : ¬ dlb (alike a b) k < k := by omega
              walk_at "rd"
              exact ⟨_, by rw [(dl_yes hal).2]; rfl, e, ys, hr1, by rw [s2 g]; exact hys⟩
      · obtain ⟨y5, rfl, e, hr1⟩ := hP
        rw [show ((a.length : Int) + 1).toNat = b.length + 1 by omega, due_end (by omega)] at hr1
        walk_at "rd"
        exact ⟨_, _, _, rfl, e, by rw [dueTo_succ ha hbj]; exact hr1⟩
    · obtain ⟨y3, y4, y5, rfl, e, ys, hr1, hys⟩ := hP
      rw [show ((A.length : Int)).toNat = B.length by omega] at hys
      walk_at "rd"
      refine r_tupLV hr1 hys fun p6 H6 hp6 e6 hT => ?_
      exact q _ _ (e.trans e6) hT
theorem one_step {S : List (List Til)} {s : Stk Til} {r : List Til} {k : Nat} {v : Til} (hr : S[s.1]? = some r) (hl : s.2.1 + s.2.2.length ≤ r.length) (hv : s.2.2[k]? = some v) :
    (S.set s.1 (put r s.2.1 (s.2.2.take k))).set s.1 ((put r s.2.1 (s.2.2.take k)).set (s.2.1 + k) v) = S.set s.1 (put r s.2.1 (s.2.2.take (k + 1))) := by
  rw [List.set_set, put_step hl hv]
theorem ok_law_spread (T : Txt K mg) : FnOk P w K mg base CX0 1 T.a_law_spread T.d_law_spread ["_law_screen_here", "_law_strokes_here"] (spPainted K) := by
  refine T.F_law_spread.ok sc_law_spread (fun vs H Q E h => ?_) (fun cdv A outer s H vs Q E hr h => ?_)
  · obtain ⟨o, s, A, L, w, rfl, _⟩ := h
    rfl
  · obtain ⟨o, s, A, L, wd, rfl, ho, hs, al, wA, w1, hok, q⟩ := h
    refine ⟨_, (pss_cons (ps_setLc (i := 2) (own := [("_law_band", 5)]) (g := (gName 5)) rfl sc_law_spread.nd rfl rfl (sw_true rfl rfl rfl (by decide +kernel)) (pi_tup (pv 0)) (blkOk_by (N := N_law_spread) (sc := defScope s_law_spread) (by decide +kernel)) (fun _ _ _ _ _ => pg_name (i := 5) sc_law_spread.nd rfl (Or.inl rfl)) (fun _ _ _ _ _ => pts_nil) (fun _ _ _ _ _ => (pe_callTy (k_list (K := K) rfl) (by rfl) T.n_list (by decide +kernel) (pa_cons (pv 5) pa_nil))))
        (pss_cons (ps_for PassesOwn.never rfl (pi_tup (pv 1)) (pg_name (i := 3) sc_law_spread.nd rfl (Or.inl rfl)) (pss_one (ps_for PassesOwn.never rfl (pi_range1 (by rfl) T.n_range (pa_cons (pe_callB call_lenU (by rfl) T.n_len (by decide +kernel) (pa_cons (pe_ix ix_seq (pv 3) pe_int (fun _ _ => rfl)) pa_nil)) pa_nil)) (pg_name (i := 4) sc_law_spread.nd rfl (Or.inl rfl)) (pss_one (ps_asg (pe_ix ix_seq (pe_ix ix_seq (pv 3) pe_int (fun _ _ => rfl)) (pv 4) (fun _ _ => rfl)) (pg_sub (pe_ix ix_seq (pv 2) (pe_ix ix_seq (pv 3) pe_int (fun _ _ => rfl)) (fun _ _ => rfl)) (pe_op op_addU (pe_ix ix_seq (pv 3) pe_int (fun _ _ => rfl)) (pv 4)) set_list))))))
        (pss_one (ps_ret (pe_callTy call_tupU (by rfl) T.n_tuple (by decide +kernel) (pa_cons (pe_lc (own := [("_law_band", 5)]) (g := gName 5) rfl sc_law_spread.nd (pi_list (pv 2)) (blkOk_by (N := N_law_spread) (sc := defScope s_law_spread) (by decide +kernel)) (fun _ _ _ _ _ => pg_name (i := 5) sc_law_spread.nd rfl (Or.inl rfl)) (fun _ _ _ _ _ => pts_nil) (fun _ _ _ _ _ => (pe_callTy (k_tup (K := K) rfl) (by rfl) T.n_tuple (by decide +kernel) (pa_cons (pv 5) pa_nil)))) pa_nil)))))), ?_⟩
    walk_at "rd"
    obtain ⟨a, xs, rfl, ha, hx⟩ := ho
    obtain ⟨c, ss, rfl, hc, hss⟩ := hs
    refine l_lcT ha.sq (fun D i H2 => Ex H H2 ∧ ∃ as, H2 D = some (.lst (as.map V.ref)) ∧ D ∉ as ∧ Grid K H H2 as (A.take i)) (fun D hD => ⟨Same.new (Same.refl _) hD, [], upd_same, (fun z => nomatch z), ⟨rfl, .nil, fun _ z => (nomatch z), fun _ _ _ z => (nomatch z)⟩⟩) (fun D i H2 hP => (ha.up hP.1).sq) (fun D i x H2 hD hxi hP => ?_) (fun D H2 hD hP => ?_)
    · obtain ⟨e2, as, g2, nD, gr⟩ := hP
      obtain ⟨rw, hrw, hxr⟩ := hx.get hxi
      have il := (List.getElem?_eq_some_iff.mp hrw).1
      obtain ⟨b, bs, rfl, hb, hbs⟩ := imm (R := RwV K) (.ex e2) hxr
      walk_at "rd"
      refine ⟨rfl, ?_⟩
      walk_at "rd"
      refine r_listT hb.sq fun l hl => ?_
      have l0 : H l = none := e2.free hl
      have gr2 := gr.snoc hl l0 hbs
      have e3 := Same.new (Same.refl H2) (o := .lst bs) hl
      have nl : D ≠ l := fun z => by rw [← z, g2] at hl; cases hl
      have asl := gr.len
      rw [List.length_take] at asl
      have g3 := e3 _ _ g2
      refine ⟨as.map V.ref, g3, by rw [List.length_map, sizeLine_eq]; omega, Same.mut (e2.trans e3) hD, as ++ [l], by rw [upd_same, List.map_append]; rfl, fun z => ?_, ?_⟩
      · rcases List.mem_append.mp z with z | z
        · exact nD z
        · exact nl (List.mem_singleton.mp z)
      · rw [List.take_add_one, hrw]
        exact gr2.off (fun z => by
          rcases List.mem_append.mp z with z | z
          · exact nD z
          · exact nl (List.mem_singleton.mp z)) (.put g3)
    · obtain ⟨e2, as, g2, nD, gr⟩ := hP
      rw [hx.len, List.take_length] at gr
      walk_at "rd"
      refine l_T (hc.up e2).sq (fun i σ H' => ∃ y3 y4 y5, σ = [some (.ref a), some (.ref c), some (.ref D), y3, y4, y5] ∧ Ex H H' ∧ H' D = some (.lst (as.map V.ref)) ∧ Grid K H H' as (paint A (L.take i))) ⟨_, _, _, rfl, e2, g2, gr⟩ (fun i σ H' hP => ?_) (fun i x σ H' hxi hP => ?_) (fun σ H' hP => ?_)
      · obtain ⟨_, _, _, _, e, _⟩ := hP
        exact (hc.up e).sq
      · obtain ⟨y3, y4, y5, rfl, e, gD, gr⟩ := hP
        obtain ⟨sk, hsk, hxs⟩ := hss.get hxi
        have hxs0 := hxs
        obtain ⟨p, u, rfl, hp, hu⟩ := imm (R := StV K) (.ex e) hxs
        have hok2 := paint_ok (fun s hs => hok s (List.mem_of_mem_take hs)) (hok sk (List.mem_of_getElem? hsk)) (L := L.take i)
        obtain ⟨r, hr1, hr2⟩ := hok2
        have wP := wide_paint wA (fun s hs => hok s (List.mem_of_mem_take hs)) (L := L.take i) r (List.mem_of_getElem? hr1)
        have jl : sk.1 < as.length := by rw [gr.len]; exact (List.getElem?_eq_some_iff.mp hr1).1
        have jl2 : sk.1 < (paint A (L.take i)).length := (List.getElem?_eq_some_iff.mp hr1).1
        obtain ⟨ad, had⟩ : ∃ ad, as[sk.1]? = some ad := ⟨_, List.getElem?_eq_getElem jl⟩
        have nDa : D ≠ ad := fun z => nD (z ▸ List.mem_of_getElem? had)
        walk_at "rd"
        refine r_ixT hp.sq (atI_nat (j := 2) rfl) ?_
        walk_at "rd"
        refine r_lenTV hu ?_
        walk_at "rd"
        refine l_R (by omega) (by omega) (fun k σ H' => ∃ y4, σ = [some (.ref a), some (.ref c), some (.ref D), some (.ref p), y4, y5] ∧ Ex H H' ∧ SqT K H' p [.int (sk.1 : Nat), .int (sk.2.1 : Nat), u] ∧ RwV K H' u sk.2.2 ∧ H' D = some (.lst (as.map V.ref)) ∧ Grid K H H' as ((paint A (L.take i)).set sk.1 (put r sk.2.1 (sk.2.2.take k)))) ⟨y4, rfl, e, hp.sq, hu, gD, by
          rw [List.take_zero, put_nil, show (paint A (L.take i)).set sk.1 r = paint A (L.take i) from by
            obtain ⟨hj, e3⟩ := List.getElem?_eq_some_iff.mp hr1
            rw [← e3]; exact List.set_getElem_self hj]
          exact gr⟩ (fun k σ H' hk hP => ?_) (fun σ H' hP => ?_)
        · obtain ⟨y4, rfl, e, hp, hu, gD, gr⟩ := hP
          obtain ⟨v, hv⟩ : ∃ v, sk.2.2[k]? = some v := ⟨_, List.getElem?_eq_getElem (by omega)⟩
          have hr3 : ((paint A (L.take i)).set sk.1 (put r sk.2.1 (sk.2.2.take k)))[sk.1]? = some (put r sk.2.1 (sk.2.2.take k)) := by
            rw [List.getElem?_set, if_pos rfl, if_pos jl2]
          obtain ⟨zs, hz1, hz2⟩ := gr.at_ _ _ _ had hr3
          have zl := hz2.len
          rw [put_len (by rw [List.length_take]; omega)] at zl
          walk_at "rd"
          refine r_ixT hp (atI_nat (j := 2) rfl) ?_
          walk_at "rd"
          refine r_ixTV hu hv fun u2 hu2 => ?_
          walk_at "rd"
          refine r_ixT hp (atI_nat (j := 0) rfl) ?_
          walk_at "rd"
          refine r_ixL (sqL gD) (atI_nat (by rw [List.getElem?_map, had]; rfl)) ?_
          walk_at "rd"
          refine r_ixT hp (atI_nat (j := 1) rfl) ?_
          walk_at "rd"
          refine r_setL (n := sk.2.1 + k) hz1 (by rw [show ((sk.2.1 : Nat) : Int) + ((k : Nat) : Int) = ((sk.2.1 + k : Nat) : Int) by omega]; unfold ixN; rw [if_pos (by omega), if_pos (by omega)]; exact congrArg some (by omega)) ?_
          have tc : Tk H' (upd H' ad (.lst (zs.set (sk.2.1 + k) u2))) := .put hz1
          have ht : ∀ {q : Addr} {ys : List V}, SqT K H' q ys → SqT K (upd H' ad (.lst (zs.set (sk.2.1 + k) u2))) q ys := fun h => by
            rcases h with (h | ⟨o, h⟩) | h
            · exact .inl (.inl (tc _ _ h))
            · exact .inl (.inr ⟨o, by rw [upd_ne (fun z => by rw [z, hz1] at h; cases h)]; exact h⟩)
            · exact .inr h
          walk_at "rd"
          refine ⟨_, rfl, Same.mut e (gr.no _ (List.mem_of_getElem? had)), ht hp, imm (R := RwV K) tc hu, by rw [upd_ne nDa]; exact gD, ?_⟩
          rw [← one_step hr1 hr2 hv]
          exact gr.put had hr3 (p2_set hz2 hu2)
        · obtain ⟨y4, rfl, e, _, _, gD, gr⟩ := hP
          rw [show ((sk.2.2.length : Int)).toNat = sk.2.2.length by omega, List.take_length] at gr
          walk_at "rd"
          refine ⟨_, _, _, rfl, e, gD, ?_⟩
          rw [paint_take hsk, one_some hr1]
          exact gr
      · obtain ⟨y3, y4, y5, rfl, e, gD, gr⟩ := hP
        rw [hss.len, List.take_length] at gr
        walk_at "rd"
        refine l_lcL (sqL gD) (fun D2 i H2 => Ex H H2 ∧ Ex H' H2 ∧ ∃ zs, H2 D2 = some (.lst zs) ∧ P2 (RwV K H2) zs ((paint A L).take i)) (fun D2 hD2 => ⟨e.trans (Same.new (Same.refl _) hD2), Same.new (Same.refl _) hD2, [], upd_same, .nil⟩) (fun D2 i H2 hP => sqL (hP.2.1 _ _ gD)) (fun D2 i x H2 hD2 hxi hP => ?_) (fun D2 H2 hD2 hP => ?_)
        · obtain ⟨e2, e3, zs, gz, hz⟩ := hP
          rw [List.getElem?_map] at hxi
          obtain ⟨ad, had, rfl⟩ := Option.map_eq_some_iff.mp hxi
          have il := (List.getElem?_eq_some_iff.mp had).1
          have gl := gr.len
          obtain ⟨r, hr1⟩ : ∃ r, (paint A L)[i]? = some r := ⟨_, List.getElem?_eq_getElem (by omega)⟩
          obtain ⟨ys, hy1, hy2⟩ := (gr.up e3).at_ _ _ _ had hr1
          walk_at "rd"
          refine ⟨rfl, ?_⟩
          walk_at "rd"
          refine r_tupLV hy1 hy2 fun p6 H6 hp6 e6 hT => ?_
          have zl : zs.length ≤ 100 := by rw [hz.len, List.length_take, paint_len]; omega
          have tc : Tk H6 (upd H6 D2 (.lst (zs ++ [.ref p6]))) := .put (e6 _ _ gz)
          refine ⟨zs, e6 _ _ gz, by rw [sizeLine_eq]; omega, Same.mut (e2.trans e6) (e.free hD2), Same.mut (e3.trans e6) hD2, _, upd_same, ?_⟩
          rw [List.take_add_one, hr1]
          exact (p2_imm tc (p2_imm (.ex e6) hz)).snoc (imm (R := RwV K) tc hT)
        · obtain ⟨e2, e3, zs, gz, hz⟩ := hP
          rw [List.length_map, gr.len, List.take_length] at hz
          walk_at "rd"
          refine r_tupLV gz hz fun p6 H6 hp6 e6 hT => ?_
          exact q _ _ (e2.trans e6) hT
end
end K63

set_option maxHeartbeats 400000
namespace K63
open PySem PySem.Spec PyProof.Rows L2 Dk Q61 Wd M63
/-- one step of a reading -/
local macro_rules | `(tactic| walk_at "rd1") => `(tactic| first
  | ((with_reducible refine r_var (v := ?rv) ?rh ?_); (case rh => rfl))
  | with_reducible refine r_c ?_
  | with_reducible refine r_seq ?_
  | with_reducible refine r_asg ?_
  | with_reducible refine r_par ?_
  | with_reducible refine r_gname ?_
  | with_reducible refine r_op ?_
  | with_reducible refine r_forLo ?_
  | with_reducible refine r_forTo ?_
  | with_reducible refine r_forSo ?_
  | with_reducible refine r_forRo ?_
  | with_reducible refine r_forRvo ?_
  | with_reducible refine r_forZo ?_
  | with_reducible refine r_revS ?_
  | with_reducible refine r_lcRo ?_
  | with_reducible refine r_lcLo ?_
  | with_reducible refine r_yes ?_
  | with_reducible refine r_callK0 ?_
  | with_reducible refine r_break ?_
  | with_reducible refine r_continue ?_
  | with_reducible refine r_forR2o ?_
  | with_reducible refine r_forEo ?_
  | with_reducible refine r_forESo ?_
  | with_reducible refine r_xfo ?_
  | with_reducible refine r_noP ?_
  | with_reducible refine r_part ?_
  | with_reducible refine r_pI ?_
  | with_reducible refine r_gcons ?_
  | with_reducible refine r_gnil ?_
  | with_reducible refine r_mkO ?_
  | with_reducible refine r_un ?_
  | with_reducible refine r_addI ?_
  | with_reducible refine r_I0 ?_
  | with_reducible refine r_U ?_
  | with_reducible refine r_cons ?_
  | with_reducible refine r_nil ?_
  | with_reducible refine r_CB ?_
  | with_reducible refine r_call ?_
  | with_reducible refine r_callS ?_
  | with_reducible refine r_int ?_
  | with_reducible refine r_max ?_
  | with_reducible refine r_min ?_
  | with_reducible refine r_test ?_
  | with_reducible refine r_B ?_
  | with_reducible refine r_blv ?_
  | with_reducible refine r_and ?_
  | with_reducible refine r_or ?_
  | with_reducible refine r_not ?_
  | with_reducible refine r_andV ?_
  | with_reducible refine r_orV ?_
  | with_reducible refine r_notV ?_
  | with_reducible refine r_ifE ?_
  | with_reducible refine r_ifS ?_
  | with_reducible refine r_ret ?_
  | with_reducible refine r_retN ?_
  | with_reducible refine r_drop ?_
  | with_reducible refine r_next ?_
  | with_reducible refine r_sl ?_
  | with_reducible refine r_gsub ?_
  | with_reducible refine r_bm ?_
  | with_reducible refine r_bm0 ?_
  | with_reducible refine r_tup ?_
  | with_reducible refine r_lst ?_
  | with_reducible refine r_isN ?_
  | with_reducible refine r_notN ?_
  | with_reducible refine r_chain ?_
  | with_reducible refine r_callK ?_
  | with_reducible refine r_isB ?_
  | with_reducible refine r_lcEio ?_
  | with_reducible refine r_forEi ?_
  | with_reducible refine r_lcTo ?_
  | with_reducible refine r_lcSo ?_
  | with_reducible refine r_m1 ?_
  | with_reducible refine r_dget ?_
  | with_reducible refine r_din ?_
  | with_reducible refine r_dnotin ?_
  | with_reducible refine Tc.r_inC ?_
  | with_reducible refine Tc.r_getC ?_
  | with_reducible refine r_starC ?_
  | with_reducible refine r_callKS ?_
  | with_reducible refine Dk.r_fld ?_
  | with_reducible refine Dk.r_forNo ?_
  | with_reducible refine Dk.r_lcR2o ?_
  | with_reducible refine Dk.r_dcE ?_
  | with_reducible refine Dk.r_gsliT ?_
  | with_reducible refine Dk.r_dcTo ?_
  | with_reducible refine Dk.r_sfld ?_
  | with_reducible refine Dk.r_meth ?_
  | with_reducible refine Dk.r_methK ?_
  | with_reducible refine Dk.r_methT ?_
  | with_reducible refine Dk.r_makeK ?_
  | with_reducible refine r_itt ?_
  | with_reducible refine r_iff ?_
  | with_reducible refine r_ittN ?_
  | with_reducible refine r_iffN ?_
  | ((with_reducible refine r_ittD ?rh ?_); (case rh => rfl))
  | ((with_reducible refine r_iffD ?rh ?_); (case rh => rfl))
  | ((with_reducible refine r_modP ?rh ?_); (case rh => decide))
  | ((with_reducible refine r_eq ?rh ?_); (case rh => rfl))
  | ((with_reducible refine r_eqP ?rh ?_); (case rh => rfl))
  | ((with_reducible refine r_ne ?rh ?_); (case rh => rfl)))
local macro_rules | `(tactic| walk_at "rd") => `(tactic| repeat walk_at "rd1")
local macro_rules | `(tactic| walk_at "isi") => `(tactic| first | refine r_isi (b := true) (by assumption) (by decide +kernel) ?_ | refine r_isi (b := false) (by assumption) (by decide +kernel) ?_)
local macro_rules | `(tactic| walk_at "rs1") => `(tactic| first
  | with_reducible refine r_seq ?_
  | with_reducible refine r_asg ?_
  | with_reducible refine r_gname ?_
  | with_reducible refine r_ret ?_)
local macro_rules | `(tactic| walk_at "rs") => `(tactic| repeat walk_at "rs1")

theorem okz_one {c : Nat} (h : c < 1114112) : OkZ ⟨#[c]⟩ := fun x hx => by
  cases List.mem_singleton.mp (show x ∈ [c] from hx)
  exact h
theorem sg_ok : ∀ c ∈ cs SG, c < 1114112 := by decide +kernel
theorem sg_at {i : Int} (h0 : 0 ≤ i) (h : i < 95) : ∃ c, atI SG.cps.toList i = some c ∧ c < 1114112 := by
  have hl : (cs SG).length = 95 := by rw [cs_len]; exact SG_len
  have hi : i.toNat < (cs SG).length := by omega
  exact ⟨(cs SG)[i.toNat], at_g (by omega) (List.getElem?_eq_getElem hi), sg_ok _ (List.getElem_mem hi)⟩
theorem tl_of {K : PySem.W.Frag} {H : Hp} {p : Addr} {c : Nat} {a b : Int} (hc : c < 1114112) (h : H p = some (.tup [.str ⟨#[c]⟩, .int a, .int b])) : TlV K H (.ref p) ((⟨#[c]⟩ : Str), a, b) :=
  ⟨by show 1 ≤ 1000; decide, okz_one hc, p, rfl, .inl h⟩
def spTile (K : PySem.W.Frag) : Sp := fun vs H Q _ => ∃ (p d s : Addr) (xs : List V) (l : List Til), vs = [.ref p, .ref s] ∧ (pool p d).B H ∧ ¬ (pool p d).A s ∧ H s = some (.lst xs) ∧ P2 (TlV K H) xs l ∧ 1 ≤ l.length ∧ l.length ≤ 100 ∧ ∀ v t H', Drw (pool p d) H H' → TlV K H' v t → Q v H'
def spNear (K : PySem.W.Frag) : Sp := fun vs H Q _ => ∃ (p d : Addr) (u : V) (x : Til), vs = [.ref p, u] ∧ (pool p d).B H ∧ TlV K H u x ∧ ∀ v t H', Drw (pool p d) H H' → TlV K H' v t → Q v H'
def spScrn (K : PySem.W.Frag) : Sp := fun vs H Q _ => ∃ (p d : Addr) (w h : Nat), vs = [.ref p, .int (w : Nat), .int (h : Nat)] ∧ (pool p d).B H ∧ w ≤ 100 ∧ h ≤ 100 ∧ ∀ v A H', Drw (pool p d) H H' → ScV K H' v A → A.length = h → Wide w A → Q v H'
def spTurn (K : PySem.W.Frag) : Sp := fun vs H Q _ => ∃ (p d : Addr) (u : V) (A : List (List Til)) (w : Nat), vs = [.ref p, u] ∧ (pool p d).B H ∧ ScV K H u A ∧ Wide w A ∧ w ≤ 100 ∧ A.length ≤ 100 ∧ ∀ v B H', Drw (pool p d) H H' → ScV K H' v B → B.length = A.length → Wide w B → Q v H'
theorem dr_none {p d C : Addr} {H H1 : Hp} (D1 : Drw (pool p d) H H1) (hC : H1 C = none) : H C = none := by
  have na := (pool p d).fresh D1.st hC
  cases e : H C with
  | none => rfl
  | some o => rw [D1.at na e] at hC; cases hC
section
variable {P : Program} {w : World} {K : PySem.W.Frag} {mg : Str → Option Value} {base : Heap}
theorem ok_law_tile (T : Txt K mg) : FnOk P w K mg base CX0 2 T.a_law_tile T.d_law_tile ["_law_pool_here", "_law_sort"] (spTile K) := by
  refine T.F_law_tile.ok sc_law_tile (fun vs H Q E h => ?_) (fun cdv A outer s H vs Q E hr h => ?_)
  · obtain ⟨p, d, s, xs, l, rfl, _⟩ := h
    rfl
  · obtain ⟨p, d, s, xs, l, rfl, hB, ns, hs, hx, l1, l2, q⟩ := h
    refine ⟨_, (pss_cons (ps_set (i := 2) sc_law_tile.nd rfl (Or.inl rfl) (pe_call0 (ok_law_signs T) hr (by rfl) T.g_law_signs T.F_law_signs.kp T.b_law_signs .nil pass0))
        (pss_cons (ps_if (pt_cmpR (op_eqU hr.units) (pe_call (ok_law_next T) hr (by rfl) T.g_law_next T.F_law_next.kp T.b_law_next .nil pass0 (pa_cons (pv 0) (pa_cons pe_int pa_nil))) pe_int (nomark _)) (pss_one (ps_ret (pe_ix ix_seq (pv 1) (pe_call (ok_law_next T) hr (by rfl) T.g_law_next T.F_law_next.kp T.b_law_next .nil pass0 (pa_cons (pv 0) (pa_cons (pe_callB call_lenU (by rfl) T.n_len (by decide +kernel) (pa_cons (pv 1) pa_nil)) pa_nil))) (fun _ _ => rfl)))) pss_nil)
        (pss_one (ps_ret (pe_tup (pa_cons (pe_ix ix_seq (pv 2) (pe_op op_addU pe_int (pe_call (ok_law_next T) hr (by rfl) T.g_law_next T.F_law_next.kp T.b_law_next .nil pass0 (pa_cons (pv 0) (pa_cons pe_int pa_nil)))) (fun _ _ => rfl)) (pa_cons (pe_call (ok_law_next T) hr (by rfl) T.g_law_next T.F_law_next.kp T.b_law_next .nil pass0 (pa_cons (pv 0) (pa_cons pe_int pa_nil))) (pa_cons (pe_call (ok_law_next T) hr (by rfl) T.g_law_next T.F_law_next.kp T.b_law_next .nil pass0 (pa_cons (pv 0) (pa_cons pe_int pa_nil))) pa_nil)))))))), ?_⟩
    walk_at "rd"
    refine ⟨rfl, ?_⟩
    walk_at "rd"
    refine ⟨p, d, 2, rfl, hB, by decide, fun v H1 v0 v1 D1 => ?_⟩
    walk_at "rd"
    refine r_iteB (fun _ => ?_) (fun _ => ?_)
    · walk_at "rd"
      refine r_lenL (sqL (D1.at ns hs)) ?_
      walk_at "rd"
      refine ⟨p, d, _, rfl, D1.st, by rw [hx.len]; omega, fun k H2 k0 k1 D2 => ?_⟩
      obtain ⟨k, rfl⟩ := Int.eq_ofNat_of_zero_le k0
      have D12 := D1.trans D2
      rw [hx.len] at k1
      walk_at "rd"
      refine r_ixLV (R := TlV K) (D12.at ns hs) (p2_imm (pool_tk hB D12) hx) (List.getElem?_eq_getElem (show k < l.length by omega)) fun u hu => ?_
      walk_at "rd"
      exact q _ _ _ D12 hu
    · walk_at "rd"
      refine ⟨p, d, 94, rfl, D1.st, by decide, fun k H2 k0 k1 D2 => ?_⟩
      obtain ⟨c, hc, hc2⟩ := sg_at (i := 1 + k) (by omega) (by omega)
      walk_at "rd"
      refine r_ixS (by rw [SG_len]; decide) hc ?_
      walk_at "rd"
      refine ⟨p, d, 9, rfl, D2.st, by decide, fun k2 H3 _ _ D3 => ?_⟩
      walk_at "rd"
      refine ⟨p, d, 8, rfl, D3.st, by decide, fun k3 H4 _ _ D4 => ?_⟩
      walk_at "rd"
      refine r_small nsz fun pt hpt => ?_
      have D14 := ((D1.trans D2).trans D3).trans D4
      exact q _ _ _ (D14.new hpt) (tl_of hc2 upd_same)
theorem ok_law_near (T : Txt K mg) : FnOk P w K mg base CX0 2 T.a_law_near T.d_law_near ["_law_pool_here", "_law_tile_here"] (spNear K) := by
  refine T.F_law_near.ok sc_law_near (fun vs H Q E h => ?_) (fun cdv A outer s H vs Q E hr h => ?_)
  · obtain ⟨p, d, u, x, rfl, _⟩ := h
    rfl
  · obtain ⟨p, d, u, ⟨xz, xa, xb⟩, rfl, hB, hx, q⟩ := h
    refine ⟨_, (pss_cons (ps_set (i := 2) sc_law_near.nd rfl (Or.inl rfl) (pe_call0 (ok_law_signs T) hr (by rfl) T.g_law_signs T.F_law_signs.kp T.b_law_signs .nil pass0))
        (pss_cons (ps_set (i := 3) sc_law_near.nd rfl (Or.inl rfl) (pe_call (ok_law_next T) hr (by rfl) T.g_law_next T.F_law_next.kp T.b_law_next .nil pass0 (pa_cons (pv 0) (pa_cons pe_int pa_nil))))
        (pss_cons (ps_if (pt_cmpR (op_eqU hr.units) (pv 3) pe_int (nomark _)) (pss_one (ps_ret (pe_tup (pa_cons (pe_ix ix_seq (pv 2) (pe_op op_addU pe_int (pe_call (ok_law_next T) hr (by rfl) T.g_law_next T.F_law_next.kp T.b_law_next .nil pass0 (pa_cons (pv 0) (pa_cons pe_int pa_nil)))) (fun _ _ => rfl)) (pa_cons (pe_ix ix_seq (pv 1) pe_int (fun _ _ => rfl)) (pa_cons (pe_ix ix_seq (pv 1) pe_int (fun _ _ => rfl)) pa_nil)))))) pss_nil)
        (pss_cons (ps_if (pt_cmpR (op_eqU hr.units) (pv 3) pe_int (nomark _)) (pss_one (ps_ret (pe_tup (pa_cons (pe_ix ix_seq (pv 1) pe_int (fun _ _ => rfl)) (pa_cons (pe_call (ok_law_next T) hr (by rfl) T.g_law_next T.F_law_next.kp T.b_law_next .nil pass0 (pa_cons (pv 0) (pa_cons pe_int pa_nil))) (pa_cons (pe_ix ix_seq (pv 1) pe_int (fun _ _ => rfl)) pa_nil)))))) pss_nil)
        (pss_one (ps_ret (pe_tup (pa_cons (pe_ix ix_seq (pv 1) pe_int (fun _ _ => rfl)) (pa_cons (pe_ix ix_seq (pv 1) pe_int (fun _ _ => rfl)) (pa_cons (pe_call (ok_law_next T) hr (by rfl) T.g_law_next T.F_law_next.kp T.b_law_next .nil pass0 (pa_cons (pv 0) (pa_cons pe_int pa_nil))) pa_nil)))))))))), ?_⟩
    obtain ⟨z1, z2, tp, rfl, ht⟩ := hx
    walk_at "rd"
    refine ⟨rfl, ?_⟩
    walk_at "rd"
    refine ⟨p, d, 3, rfl, hB, by decide, fun v H1 v0 v1 D1 => ?_⟩
    walk_at "rd"
    refine r_iteB (fun _ => ?_) (fun _ => ?_)
    · walk_at "rd"
      refine ⟨p, d, 94, rfl, D1.st, by decide, fun k H2 k0 k1 D2 => ?_⟩
      obtain ⟨c, hc, hc2⟩ := sg_at (i := 1 + k) (by omega) (by omega)
      have ht2 := ht.tk (pool_tk hB (D1.trans D2))
      walk_at "rd"
      refine r_ixS (by rw [SG_len]; decide) hc ?_
      walk_at "rd"
      refine r_ixT ht2.sq (atI_nat (j := 1) rfl) ?_
      walk_at "rd"
      refine r_ixT ht2.sq (atI_nat (j := 2) rfl) ?_
      walk_at "rd"
      refine r_small nsz fun pt hpt => ?_
      exact q _ _ _ ((D1.trans D2).new hpt) (tl_of hc2 upd_same)
    · walk_at "rd"
      refine r_iteB (fun _ => ?_) (fun _ => ?_)
      · have ht2 := ht.tk (pool_tk hB D1)
        walk_at "rd"
        refine r_ixT ht2.sq (atI_nat (j := 0) rfl) ?_
        walk_at "rd"
        refine ⟨p, d, 9, rfl, D1.st, by decide, fun k2 H3 _ _ D3 => ?_⟩
        have ht3 := ht.tk (pool_tk hB (D1.trans D3))
        walk_at "rd"
        refine r_ixT ht3.sq (atI_nat (j := 2) rfl) ?_
        walk_at "rd"
        refine r_small nsz fun pt hpt => ?_
        exact q _ (xz, k2, xb) _ ((D1.trans D3).new hpt) ⟨z1, z2, pt, rfl, .inl upd_same⟩
      · have ht2 := ht.tk (pool_tk hB D1)
        walk_at "rd"
        refine r_ixT ht2.sq (atI_nat (j := 0) rfl) ?_
        walk_at "rd"
        refine r_ixT ht2.sq (atI_nat (j := 1) rfl) ?_
        walk_at "rd"
        refine ⟨p, d, 8, rfl, D1.st, by decide, fun k2 H3 _ _ D3 => ?_⟩
        walk_at "rd"
        refine r_small nsz fun pt hpt => ?_
        exact q _ (xz, xa, k2) _ ((D1.trans D3).new hpt) ⟨z1, z2, pt, rfl, .inl upd_same⟩
theorem ok_law_screen (T : Txt K mg) : FnOk P w K mg base CX0 3 T.a_law_screen T.d_law_screen ["_law_pool_here", "_law_wide", "_law_high"] (spScrn K) := by
  refine T.F_law_screen.ok sc_law_screen (fun vs H Q E h => ?_) (fun cdv A outer s H vs Q E hr h => ?_)
  · obtain ⟨p, d, w, h, rfl, _⟩ := h
    rfl
  · obtain ⟨p, d, wd, hi, rfl, hB, w1, h1, q⟩ := h
    refine ⟨_, (pss_cons (ps_set (i := 3) sc_law_screen.nd rfl (Or.inl rfl) (pe_tup (pa_cons pe_str (pa_cons pe_int (pa_cons pe_int pa_nil)))))
        (pss_cons (ps_set (i := 4) sc_law_screen.nd rfl (Or.inr rfl) (pe_lst (pa_cons (pv 3) (pa_cons (pv 3) (pa_cons (pe_tup (pa_cons pe_str (pa_cons pe_int (pa_cons pe_int pa_nil)))) (pa_cons (pe_tup (pa_cons pe_str (pa_cons pe_int (pa_cons pe_int pa_nil)))) (pa_cons (pe_tup (pa_cons pe_str (pa_cons pe_int (pa_cons pe_int pa_nil)))) (pa_cons (pe_tup (pa_cons pe_str (pa_cons pe_int (pa_cons pe_int pa_nil)))) pa_nil))))))))
        (pss_one (ps_ret (pe_callTy call_tupU (by rfl) T.n_tuple (by decide +kernel) (pa_cons (pe_lc (own := [("_law_j", 5)]) (g := gName 5) rfl sc_law_screen.nd (pi_range1 (by rfl) T.n_range (pa_cons (pv 2) pa_nil)) (blkOk_by (N := N_law_screen) (sc := defScope s_law_screen) (by decide +kernel)) (fun _ _ _ _ _ => pg_name (i := 5) sc_law_screen.nd rfl (Or.inl rfl)) (fun _ _ _ _ _ => pts_nil) (fun _ _ _ _ _ => (pe_callTy (k_tup (K := K) rfl) (by rfl) T.n_tuple (by decide +kernel) (pa_cons (pe_lc (own := [("_law_k", 6)]) (g := gName 6) rfl sc_law_screen.nd (pi_range1 (by rfl) T.n_range (pa_cons (pv 1) pa_nil)) (Dk.blkOk_in (N := N_law_screen) rfl (by decide +kernel)) (fun _ _ _ _ _ => pg_name (i := 6) sc_law_screen.nd rfl (Or.inl rfl)) (fun _ _ _ _ _ => pts_nil) (fun _ _ _ _ _ => (pe_call (ok_law_tile T) hr (by rfl) T.g_law_tile T.F_law_tile.kp T.b_law_tile .nil pass0 (pa_cons (pv 0) (pa_cons (pv 4) pa_nil))))) pa_nil)))) pa_nil)))))), ?_⟩
    walk_at "rd"
    refine r_small nsz fun b0 hb0 => ?_
    obtain ⟨H0, k0, e0, g0⟩ := new1 hb0 (.tup [V.str " ", V.int 0, V.int 0])
    rw [← k0]
    walk_at "rd"
    refine r_small nsz fun b1 hb1 => ?_
    obtain ⟨H1, k1, e1, g1⟩ := new1 hb1 (.tup [V.str "a", V.int 0, V.int 0])
    rw [← k1]
    walk_at "rd"
    refine r_small nsz fun b2 hb2 => ?_
    obtain ⟨H2, k2, e2, g2⟩ := new1 hb2 (.tup [V.str "a", V.int 3, V.int 0])
    rw [← k2]
    walk_at "rd"
    refine r_small nsz fun b3 hb3 => ?_
    obtain ⟨H3, k3, e3, g3⟩ := new1 hb3 (.tup [V.str "a", V.int 0, V.int 1])
    rw [← k3]
    walk_at "rd"
    refine r_small nsz fun b4 hb4 => ?_
    obtain ⟨H4, k4, e4, g4⟩ := new1 hb4 (.tup [V.str " ", V.int 0, V.int 4])
    rw [← k4]
    walk_at "rd"
    refine r_small nsz fun sl hsl => ?_
    obtain ⟨H5, k5, e5, g5⟩ := new1 hsl (.lst [V.ref b0, V.ref b0, V.ref b1, V.ref b2, V.ref b3, V.ref b4])
    rw [← k5]
    have e45 := e4.trans e5
    have e35 := e3.trans e45
    have e25 := e2.trans e35
    have e15 := e1.trans e25
    have hP : P2 (TlV K H5) [V.ref b0, V.ref b0, V.ref b1, V.ref b2, V.ref b3, V.ref b4] [((" " : Str), (0 : Int), (0 : Int)), ((" " : Str), 0, 0), (("a" : Str), 0, 0), (("a" : Str), 3, 0), (("a" : Str), 0, 1), ((" " : Str), 0, 4)] :=
      .cons (tl_of (c := 32) (by decide) (e15 _ _ g0)) (.cons (tl_of (c := 32) (by decide) (e15 _ _ g0)) (.cons (tl_of (c := 97) (by decide) (e25 _ _ g1)) (.cons (tl_of (c := 97) (by decide) (e35 _ _ g2)) (.cons (tl_of (c := 97) (by decide) (e45 _ _ g3)) (.cons (tl_of (c := 32) (by decide) (e5 _ _ g4)) .nil)))))
    have B5 := (pool p d).up hB (e0.trans e15)
    have ns := (pool p d).fresh ((pool p d).up hB (e0.trans ((((e1.trans e2).trans e3)).trans e4))) hsl
    have D5 : Drw (pool p d) H H5 := .ex hB (e0.trans e15)
    walk_at "rd"
    refine l_lcR (by omega) (by omega) (fun C i H6 => Drw (pool p d) H5 H6 ∧ ∃ xs A, H6 C = some (.lst xs) ∧ P2 (RwV K H6) xs A ∧ A.length = i ∧ Wide wd A) (fun C hC => ⟨(Drw.refl B5).new hC, [], [], upd_same, .nil, rfl, fun r h => nomatch h⟩) (fun C i H6 hC hi hP2 => ?_) (fun C H6 hC hP2 => ?_)
    · obtain ⟨D6, xs, A, gC, hA, hl, hw⟩ := hP2
      have na := (pool p d).fresh B5 hC
      walk_at "rd"
      refine ⟨rfl, ?_⟩
      walk_at "rd"
      refine l_lcR (by omega) (by omega) (fun C2 i H7 => Drw (pool p d) H6 H7 ∧ ∃ ys r, H7 C2 = some (.lst ys) ∧ P2 (TlV K H7) ys r ∧ r.length = i) (fun C2 hC2 => ⟨(Drw.refl D6.st).new hC2, [], [], upd_same, .nil, rfl⟩) (fun C2 i2 H7 hC2 hi2 hP3 => ?_) (fun C2 H7 hC2 hP3 => ?_)
      · obtain ⟨D7, ys, r, gC2, hr2, hrl⟩ := hP3
        have na2 := (pool p d).fresh D6.st hC2
        walk_at "rd"
        refine ⟨rfl, ?_⟩
        walk_at "rd"
        have D57 := D6.trans D7
        refine ⟨p, d, sl, _, _, rfl, D7.st, ns, D57.at ns g5, p2_imm (pool_tk B5 D57) hP, by decide, by decide, fun v t H8 D8 ht => ?_⟩
        have gC8 := D8.at na2 gC2
        have tc : Tk H8 (upd H8 C2 (.lst (ys ++ [v]))) := .put gC8
        refine ⟨ys, gC8, by rw [hr2.len, sizeLine_eq]; omega, (D7.trans D8).put hC2 na2, _, r ++ [t], upd_same, (p2_imm tc (p2_imm (pool_tk D7.st D8) hr2)).snoc (imm (R := TlV K) tc ht), by rw [List.length_append, hrl]; rfl⟩
      · obtain ⟨D7, ys, r, gC2, hr2, hrl⟩ := hP3
        walk_at "rd"
        refine r_tupLV gC2 hr2 fun p6 H8 hp6 e8 hT => ?_
        have D8 := D7.then e8
        have gC8 := D8.at na gC
        have tc : Tk H8 (upd H8 C (.lst (xs ++ [.ref p6]))) := .put gC8
        refine ⟨xs, gC8, by rw [hA.len, sizeLine_eq]; omega, (D6.trans D8).put hC na, _, A ++ [r], upd_same, (p2_imm tc (p2_imm (pool_tk D6.st D8) hA)).snoc (imm (R := RwV K) tc hT), by rw [List.length_append, hl]; rfl, fun q hq => ?_⟩
        rcases List.mem_append.mp hq with h | h
        · exact hw q h
        · cases List.mem_singleton.mp h; omega
    · obtain ⟨D6, xs, A, gC, hA, hl, hw⟩ := hP2
      walk_at "rd"
      refine r_tupLV gC hA fun p6 H8 hp6 e8 hT => ?_
      exact q _ A _ ((D5.trans D6).then e8) hT (by omega) hw
end
end K63

set_option maxHeartbeats 400000
namespace K63
open PySem PySem.Spec PyProof.Rows L2 Dk Q61 Wd M63
/-- one step of a reading -/
local macro_rules | `(tactic| walk_at "rd1") => `(tactic| first
  | ((with_reducible refine r_var (v := ?rv) ?rh ?_); (case rh => rfl))
  | with_reducible refine r_c ?_
  | with_reducible refine r_seq ?_
  | with_reducible refine r_asg ?_
  | with_reducible refine r_par ?_
  | with_reducible refine r_gname ?_
  | with_reducible refine r_op ?_
  | with_reducible refine r_forLo ?_
  | with_reducible refine r_forTo ?_
  | with_reducible refine r_forSo ?_
  | with_reducible refine r_forRo ?_
  | with_reducible refine r_forRvo ?_
  | with_reducible refine r_forZo ?_
  | with_reducible refine r_revS ?_
  | with_reducible refine r_lcRo ?_
  | with_reducible refine r_lcLo ?_
  | with_reducible refine r_yes ?_
  | with_reducible refine r_callK0 ?_
  | with_reducible refine r_break ?_
  | with_reducible refine r_continue ?_
  | with_reducible refine r_forR2o ?_
  | with_reducible refine r_forEo ?_
  | with_reducible refine r_forESo ?_
  | with_reducible refine r_xfo ?_
  | with_reducible refine r_noP ?_
  | with_reducible refine r_part ?_
  | with_reducible refine r_pI ?_
  | with_reducible refine r_gcons ?_
  | with_reducible refine r_gnil ?_
  | with_reducible refine r_mkO ?_
  | with_reducible refine r_un ?_
  | with_reducible refine r_addI ?_
  | with_reducible refine r_I0 ?_
  | with_reducible refine r_U ?_
  | with_reducible refine r_cons ?_
  | with_reducible refine r_nil ?_
  | with_reducible refine r_CB ?_
  | with_reducible refine r_call ?_
  | with_reducible refine r_callS ?_
  | with_reducible refine r_int ?_
  | with_reducible refine r_max ?_
  | with_reducible refine r_min ?_
  | with_reducible refine r_test ?_
  | with_reducible refine r_B ?_
  | with_reducible refine r_blv ?_
  | with_reducible refine r_and ?_
  | with_reducible refine r_or ?_
  | with_reducible refine r_not ?_
  | with_reducible refine r_andV ?_
  | with_reducible refine r_orV ?_
  | with_reducible refine r_notV ?_
  | with_reducible refine r_ifE ?_
  | with_reducible refine r_ifS ?_
  | with_reducible refine r_ret ?_
  | with_reducible refine r_retN ?_
  | with_reducible refine r_drop ?_
  | with_reducible refine r_next ?_
  | with_reducible refine r_sl ?_
  | with_reducible refine r_gsub ?_
  | with_reducible refine r_bm ?_
  | with_reducible refine r_bm0 ?_
  | with_reducible refine r_tup ?_
  | with_reducible refine r_lst ?_
  | with_reducible refine r_isN ?_
  | with_reducible refine r_notN ?_
  | with_reducible refine r_chain ?_
  | with_reducible refine r_callK ?_
  | with_reducible refine r_isB ?_
  | with_reducible refine r_lcEio ?_
  | with_reducible refine r_forEi ?_
  | with_reducible refine r_lcTo ?_
  | with_reducible refine r_lcSo ?_
  | with_reducible refine r_m1 ?_
  | with_reducible refine r_dget ?_
  | with_reducible refine r_din ?_
  | with_reducible refine r_dnotin ?_
  | with_reducible refine Tc.r_inC ?_
  | with_reducible refine Tc.r_getC ?_
  | with_reducible refine r_starC ?_
  | with_reducible refine r_callKS ?_
  | with_reducible refine Dk.r_fld ?_
  | with_reducible refine Dk.r_forNo ?_
  | with_reducible refine Dk.r_lcR2o ?_
  | with_reducible refine Dk.r_dcE ?_
  | with_reducible refine Dk.r_gsliT ?_
  | with_reducible refine Dk.r_dcTo ?_
  | with_reducible refine Dk.r_sfld ?_
  | with_reducible refine Dk.r_meth ?_
  | with_reducible refine Dk.r_methK ?_
  | with_reducible refine Dk.r_methT ?_
  | with_reducible refine Dk.r_makeK ?_
  | with_reducible refine r_itt ?_
  | with_reducible refine r_iff ?_
  | with_reducible refine r_ittN ?_
  | with_reducible refine r_iffN ?_
  | ((with_reducible refine r_ittD ?rh ?_); (case rh => rfl))
  | ((with_reducible refine r_iffD ?rh ?_); (case rh => rfl))
  | ((with_reducible refine r_modP ?rh ?_); (case rh => decide))
  | ((with_reducible refine r_eq ?rh ?_); (case rh => rfl))
  | ((with_reducible refine r_eqP ?rh ?_); (case rh => rfl))
  | ((with_reducible refine r_ne ?rh ?_); (case rh => rfl)))
local macro_rules | `(tactic| walk_at "rd") => `(tactic| repeat walk_at "rd1")
local macro_rules | `(tactic| walk_at "isi") => `(tactic| first | refine r_isi (b := true) (by assumption) (by decide +kernel) ?_ | refine r_isi (b := false) (by assumption) (by decide +kernel) ?_)
local macro_rules | `(tactic| walk_at "rs1") => `(tactic| first
  | with_reducible refine r_seq ?_
  | with_reducible refine r_asg ?_
  | with_reducible refine r_gname ?_
  | with_reducible refine r_ret ?_)
local macro_rules | `(tactic| walk_at "rs") => `(tactic| repeat walk_at "rs1")

def spStrk (K : PySem.W.Frag) : Sp := fun vs H Q _ => ∃ (p d : Addr) (u v : V) (A B : List (List Til)) (w : Nat), vs = [.ref p, u, v] ∧ (pool p d).B H ∧ ScV K H u A ∧ ScV K H v B ∧ A.length = B.length ∧ Wide w A ∧ Wide w B ∧ 1 ≤ w ∧ w ≤ 100 ∧ 1 ≤ A.length ∧ A.length ≤ 100 ∧
  ∀ s L H', Drw (pool p d) H H' → TupV K (StV K) H' s L → (∀ s ∈ L, OkS A s) → Q s H'
def spText : Sp := fun vs H Q _ => ∃ (p d : Addr), vs = [.ref p] ∧ (pool p d).B H ∧ ∀ z H', Drw (pool p d) H H' → z.length ≤ 24 → OkZ z → Q (.str z) H'
section
variable {P : Program} {w : World} {K : PySem.W.Frag} {mg : Str → Option Value} {base : Heap}
theorem ok_law_turned (T : Txt K mg) : FnOk P w K mg base CX0 3 T.a_law_turned T.d_law_turned ["_law_pool_here", "_law_screen_here"] (spTurn K) := by
  refine T.F_law_turned.ok sc_law_turned (fun vs H Q E h => ?_) (fun cdv A outer s H vs Q E hr h => ?_)
  · obtain ⟨p, d, u, A, w, rfl, _⟩ := h
    rfl
  · obtain ⟨p, d, u, A, wd, rfl, hB, hA, wA, w1, al, q⟩ := h
    refine ⟨_, (pss_cons (ps_set (i := 2) sc_law_turned.nd rfl (Or.inl rfl) (pe_op op_addU pe_int (pe_call (ok_law_next T) (hr.mono (by decide)) (by rfl) T.g_law_next T.F_law_next.kp T.b_law_next .nil pass0 (pa_cons (pv 0) (pa_cons pe_int pa_nil)))))
        (pss_cons (ps_set (i := 3) sc_law_turned.nd rfl (Or.inl rfl) (pe_lst pa_nil))
        (pss_cons (ps_for PassesOwn.never rfl (pi_tup (pv 1)) (pg_name (i := 4) sc_law_turned.nd rfl (Or.inl rfl)) (pss_cons (ps_set (i := 5) sc_law_turned.nd rfl (Or.inl rfl) (pe_callTy call_listU (by rfl) T.n_list (by decide +kernel) (pa_cons (pv 4) pa_nil)))
        (pss_cons (ps_for PassesOwn.never rfl (pi_range1 (by rfl) T.n_range (pa_cons (pe_callB call_lenU (by rfl) T.n_len (by decide +kernel) (pa_cons (pv 5) pa_nil)) pa_nil)) (pg_name (i := 6) sc_law_turned.nd rfl (Or.inl rfl)) (pss_one (ps_if (pt_cmpR (op_eqU hr.units) (pe_call (ok_law_next T) (hr.mono (by decide)) (by rfl) T.g_law_next T.F_law_next.kp T.b_law_next .nil pass0 (pa_cons (pv 0) (pa_cons (pv 2) pa_nil))) pe_int (nomark _)) (pss_one (ps_asg (pe_call (ok_law_near T) hr (by rfl) T.g_law_near T.F_law_near.kp T.b_law_near .nil pass0 (pa_cons (pv 0) (pa_cons (pe_ix ix_seq (pv 5) (pv 6) (fun _ _ => rfl)) pa_nil))) (pg_sub (pv 5) (pv 6) set_list))) pss_nil)))
        (pss_one (ps_expr (pe_bm PySem.F.plainAttrs_list PySem.F.slot_list_append PySem.F.type_list_append mt_append (pv 3) (pa_cons (pe_callTy call_tupU (by rfl) T.n_tuple (by decide +kernel) (pa_cons (pv 5) pa_nil)) pa_nil)))))))
        (pss_one (ps_ret (pe_callTy call_tupU (by rfl) T.n_tuple (by decide +kernel) (pa_cons (pv 3) pa_nil))))))), ?_⟩
    obtain ⟨a, xs, rfl, ha, hx⟩ := hA
    walk_at "rd"
    refine ⟨p, d, 8, rfl, hB, by decide, fun o H1 o0 o1 D1 => ?_⟩
    walk_at "rd"
    refine r_small nsz fun m hm => ?_
    obtain ⟨H2, k2, e2, g2⟩ := new1 hm (.lst [])
    rw [← k2]
    have nm := (pool p d).fresh D1.st hm
    have D2 := D1.then e2
    walk_at "rd"
    refine l_T (ha.tk (pool_tk hB D2)).sq (fun i σ H' => ∃ y4 y5 y6, σ = [some (.ref p), some (.ref a), some (.int (1 + o)), some (.ref m), y4, y5, y6] ∧ Drw (pool p d) H H' ∧ ∃ ys B, H' m = some (.lst ys) ∧ P2 (RwV K H') ys B ∧ B.length = i ∧ Wide wd B) ⟨none, none, none, rfl, D2, [], [], g2, .nil, rfl, fun r h => nomatch h⟩ (fun i σ H' hP => ?_) (fun i x σ H' hxi hP => ?_) (fun σ H' hP => ?_)
    · obtain ⟨_, _, _, _, D, _⟩ := hP
      exact (ha.tk (pool_tk hB D)).sq
    · obtain ⟨y4, y5, y6, rfl, D, ys, B, gm, hys, bl, wB⟩ := hP
      obtain ⟨r, hr1, hxr⟩ := hx.get hxi
      have rl := wA r (List.mem_of_getElem? hr1)
      have il := (List.getElem?_eq_some_iff.mp hr1).1
      obtain ⟨b, bs, rfl, hb, hbs⟩ := imm (R := RwV K) (pool_tk hB D) hxr
      walk_at "rd"
      refine r_listT hb.sq fun l hl => ?_
      obtain ⟨H3, k3, e3, g3⟩ := new1 hl (.lst bs)
      rw [← k3]
      have nl := (pool p d).fresh D.st hl
      have nml : m ≠ l := fun z => by rw [← z, gm] at hl; cases hl
      have D3 := D.then e3
      have l0 := dr_none D hl
      have bl2 := hbs.len
      walk_at "rd"
      refine r_lenL (sqL g3) ?_
      walk_at "rd"
      refine l_R (by omega) (by omega) (fun k σ H' => ∃ y6, σ = [some (.ref p), some (.ref a), some (.int (1 + o)), some (.ref m), some (.ref b), some (.ref l), y6] ∧ Drw (pool p d) H H' ∧ H' m = some (.lst ys) ∧ P2 (RwV K H') ys B ∧ ∃ zs r2, H' l = some (.lst zs) ∧ P2 (TlV K H') zs r2 ∧ r2.length = wd) ⟨y6, rfl, D3, e3 _ _ gm, p2_imm (.ex e3) hys, bs, r, g3, p2_imm (.ex e3) hbs, rl⟩ (fun k σ H' hk hP => ?_) (fun σ H' hP => ?_)
      · obtain ⟨y6, rfl, D4, gm, hys, zs, r2, gl, hz, r2l⟩ := hP
        have zl := hz.len
        walk_at "rd"
        refine ⟨p, d, _, rfl, D4.st, by omega, fun v H5 v0 v1 D5 => ?_⟩
        have D45 := D4.trans D5
        have t5 := pool_tk D4.st D5
        have gl5 := D5.at nl gl
        have gm5 := D5.at nm gm
        have hz5 := p2_imm t5 hz
        walk_at "rd"
        refine r_iteB (fun _ => ?_) (fun _ => ?_)
        · obtain ⟨t, ht⟩ : ∃ t, r2[k]? = some t := ⟨_, List.getElem?_eq_getElem (by omega)⟩
          walk_at "rd"
          refine r_ixLV (R := TlV K) gl5 hz5 ht fun u hu => ?_
          walk_at "rd"
          refine ⟨p, d, u, t, rfl, D45.st, hu, fun v2 t2 H6 D6 ht2 => ?_⟩
          have gl6 := D6.at nl gl5
          have tc : Tk H6 (upd H6 l (.lst (zs.set k v2))) := .put gl6
          have t6 := pool_tk D45.st D6
          walk_at "rd"
          refine r_setL (n := k) gl6 (by unfold ixN; rw [if_pos (by omega), if_pos (by omega)]; exact congrArg some (by omega)) ?_
          walk_at "rd"
          refine ⟨_, rfl, (D45.trans D6).put l0 nl, by rw [upd_ne nml]; exact D6.at nm gm5, p2_imm tc (p2_imm t6 (p2_imm t5 hys)), _, r2.set k t2, upd_same, p2_set (p2_imm tc (p2_imm t6 hz5)) (imm (R := TlV K) tc ht2), by rw [List.length_set]; exact r2l⟩
        · walk_at "rd"
          exact ⟨_, rfl, D45, gm5, p2_imm t5 hys, zs, r2, gl5, hz5, r2l⟩
      · obtain ⟨y6, rfl, D4, gm, hys, zs, r2, gl, hz, r2l⟩ := hP
        walk_at "rd"
        refine r_tyL (sqL gm) ?_
        walk_at "rd"
        refine r_tupLV gl hz fun p6 H8 hp6 e8 hT => ?_
        have gm8 := e8 _ _ gm
        walk_at "rd"
        refine r_app gm8 (by rw [hys.len, bl, sizeLine_eq]; omega) ?_
        walk_at "rd"
        have tc : Tk H8 (upd H8 m (.lst (ys ++ [.ref p6]))) := .put gm8
        refine ⟨_, _, _, rfl, (D4.then e8).put (dr_none D1 hm) nm, _, B ++ [r2], upd_same, (p2_imm tc (p2_imm (.ex e8) hys)).snoc (imm (R := RwV K) tc hT), by rw [List.length_append, bl]; rfl, fun q hq => ?_⟩
        rcases List.mem_append.mp hq with h | h
        · exact wB q h
        · cases List.mem_singleton.mp h; exact r2l
    · obtain ⟨y4, y5, y6, rfl, D, ys, B, gm, hys, bl, wB⟩ := hP
      walk_at "rd"
      refine r_tupLV gm hys fun p6 H8 hp6 e8 hT => ?_
      exact q _ B _ (D.then e8) hT (by rw [bl, hx.len]) wB
theorem ok_law_strokes (T : Txt K mg) : FnOk P w K mg base CX0 2 T.a_law_strokes T.d_law_strokes ["_law_pool_here", "_law_screen_here", "_law_other"] (spStrk K) := by
  refine T.F_law_strokes.ok sc_law_strokes (fun vs H Q E h => ?_) (fun cdv A outer s H vs Q E hr h => ?_)
  · obtain ⟨p, d, u, v, A, B, w, rfl, _⟩ := h
    rfl
  · obtain ⟨p, d, u, v, A, B, wd, rfl, hB, hA, hO, hl, wA, wB, w0, w1, a0, a1, q⟩ := h
    refine ⟨_, (pss_cons (ps_set (i := 3) sc_law_strokes.nd rfl (Or.inl rfl) (pe_lst pa_nil))
        (pss_cons (ps_for PassesOwn.never rfl (pi_range1 (by rfl) T.n_range (pa_cons (pe_call (ok_law_next T) hr (by rfl) T.g_law_next T.F_law_next.kp T.b_law_next .nil pass0 (pa_cons (pv 0) (pa_cons pe_int pa_nil))) pa_nil)) (pg_name (i := 4) sc_law_strokes.nd rfl (Or.inl rfl)) (pss_cons (ps_set (i := 5) sc_law_strokes.nd rfl (Or.inl rfl) (pe_call (ok_law_next T) hr (by rfl) T.g_law_next T.F_law_next.kp T.b_law_next .nil pass0 (pa_cons (pv 0) (pa_cons (pe_callB call_lenU (by rfl) T.n_len (by decide +kernel) (pa_cons (pv 1) pa_nil)) pa_nil))))
        (pss_cons (ps_set (i := 6) sc_law_strokes.nd rfl (Or.inl rfl) (pe_call (ok_law_next T) hr (by rfl) T.g_law_next T.F_law_next.kp T.b_law_next .nil pass0 (pa_cons (pv 0) (pa_cons (pe_callB call_lenU (by rfl) T.n_len (by decide +kernel) (pa_cons (pe_ix ix_seq (pv 1) pe_int (fun _ _ => rfl)) pa_nil)) pa_nil))))
        (pss_cons (ps_set (i := 7) sc_law_strokes.nd rfl (Or.inl rfl) (pe_op op_addU (pe_op op_addU (pv 6) pe_int) (pe_call (ok_law_next T) hr (by rfl) T.g_law_next T.F_law_next.kp T.b_law_next .nil pass0 (pa_cons (pv 0) (pa_cons (pe_op op_sub (pe_callB call_lenU (by rfl) T.n_len (by decide +kernel) (pa_cons (pe_ix ix_seq (pv 1) pe_int (fun _ _ => rfl)) pa_nil)) (pv 6)) pa_nil)))))
        (pss_one (ps_expr (pe_bm PySem.F.plainAttrs_list PySem.F.slot_list_append PySem.F.type_list_append mt_append (pv 3) (pa_cons (pe_tup (pa_cons (pv 5) (pa_cons (pv 6) (pa_cons (pe_slice sl_U (pe_ix ix_seq (pe_ix ix_seq (pe_lst (pa_cons (pv 1) (pa_cons (pv 2) pa_nil))) (pe_call (ok_law_next T) hr (by rfl) T.g_law_next T.F_law_next.kp T.b_law_next .nil pass0 (pa_cons (pv 0) (pa_cons pe_int pa_nil))) (fun _ _ => rfl)) (pv 5) (fun _ _ => rfl)) (po_some (pv 6)) (po_some (pv 7))) pa_nil)))) pa_nil))))))))
        (pss_cons (ps_if (PW.pt (pw_and (pt_cmpR op_gt (pe_callB call_lenU (by rfl) T.n_len (by decide +kernel) (pa_cons (pv 3) pa_nil)) pe_int (nomark _)) (pw_and1 (pt_cmpR (op_eqU hr.units) (pe_call (ok_law_next T) hr (by rfl) T.g_law_next T.F_law_next.kp T.b_law_next .nil pass0 (pa_cons (pv 0) (pa_cons pe_int pa_nil))) pe_int (nomark _))))) (pss_one (ps_expr (pe_bm PySem.F.plainAttrs_list PySem.F.slot_list_append PySem.F.type_list_append mt_append (pv 3) (pa_cons (pe_tup (pa_cons (pe_ix ix_seq (pe_ix ix_seq (pv 3) pe_int (fun _ _ => rfl)) pe_int (fun _ _ => rfl)) (pa_cons (pe_ix ix_seq (pe_ix ix_seq (pv 3) pe_int (fun _ _ => rfl)) pe_int (fun _ _ => rfl)) (pa_cons (pe_tup (pa_cons (pe_tup (pa_cons pe_str (pa_cons pe_int (pa_cons pe_int pa_nil)))) pa_nil)) pa_nil)))) pa_nil)))) pss_nil)
        (pss_one (ps_ret (pe_callTy call_tupU (by rfl) T.n_tuple (by decide +kernel) (pa_cons (pv 3) pa_nil))))))), ?_⟩
    walk_at "rd"
    refine r_small nsz fun m hm => ?_
    obtain ⟨H1, k1, e1, g1⟩ := new1 hm (.lst [])
    rw [← k1]
    have nm := (pool p d).fresh hB hm
    have D1 : Drw (pool p d) H H1 := .ex hB e1
    walk_at "rd"
    refine ⟨p, d, 6, rfl, D1.st, by decide, fun n H2 n0 n1 D2 => ?_⟩
    walk_at "rd"
    refine l_R (by omega) (by omega) (fun i σ H' => ∃ y4 y5 y6 y7, σ = [some (.ref p), some u, some v, some (.ref m), y4, y5, y6, y7] ∧ Drw (pool p d) H H' ∧ ∃ ys L, H' m = some (.lst ys) ∧ P2 (StV K H') ys L ∧ L.length = i ∧ ∀ s ∈ L, OkS A s ∧ 1 ≤ s.2.2.length) ⟨none, none, none, none, rfl, D1.trans D2, [], [], D2.at nm g1, .nil, rfl, fun r h => nomatch h⟩ (fun i σ H' hi hP => ?_) (fun σ H' hP => ?_)
    · obtain ⟨y4, y5, y6, y7, rfl, D, ys, L, gm, hys, ll, lok⟩ := hP
      obtain ⟨r0, hr0⟩ : ∃ r0, A[0]? = some r0 := ⟨_, List.getElem?_eq_getElem (by omega)⟩
      have r0l := wA r0 (List.mem_of_getElem? hr0)
      walk_at "rd"
      refine r_lenTV (imm (R := ScV K) (pool_tk hB D) hA) ?_
      walk_at "rd"
      refine ⟨p, d, _, rfl, D.st, by omega, fun j H3 j0 j1 D3 => ?_⟩
      obtain ⟨j, rfl⟩ := Int.eq_ofNat_of_zero_le j0
      have E3 := D.trans D3
      walk_at "rd"
      refine r_ixTV (i := 0) (imm (R := ScV K) (pool_tk hB E3) hA) hr0 fun u0 hu0 => ?_
      walk_at "rd"
      refine r_lenTV hu0 ?_
      walk_at "rd"
      refine ⟨p, d, _, rfl, E3.st, by omega, fun b H4 b0 b1 D4 => ?_⟩
      obtain ⟨b, rfl⟩ := Int.eq_ofNat_of_zero_le b0
      have E4 := E3.trans D4
      walk_at "rd"
      refine r_ixTV (i := 0) (imm (R := ScV K) (pool_tk hB E4) hA) hr0 fun u0 hu0 => ?_
      walk_at "rd"
      refine r_lenTV hu0 ?_
      walk_at "rd"
      refine ⟨p, d, _, rfl, E4.st, by omega, fun c H5 c0 c1 D5 => ?_⟩
      obtain ⟨c, rfl⟩ := Int.eq_ofNat_of_zero_le c0
      have E5 := E4.trans D5
      have gm5 := D5.at nm (D4.at nm (D3.at nm gm))
      have hys5 := p2_imm (pool_tk D.st ((D3.trans D4).trans D5)) hys
      walk_at "rd"
      refine r_tyL (sqL gm5) ?_
      walk_at "rd"
      refine r_small nsz fun m2 hm2 => ?_
      obtain ⟨H6, k6, e6, g6⟩ := new1 hm2 (.lst [u, v])
      rw [← k6]
      have E6 := E5.then e6
      have nm2 := (pool p d).fresh E5.st hm2
      walk_at "rd"
      refine ⟨p, d, 2, rfl, E6.st, by decide, fun f H7 f0 f1 D7 => ?_⟩
      have E7 := E6.trans D7
      obtain ⟨t, C, hC, ht, hCl, wC⟩ : ∃ t C, atI [u, v] f = some t ∧ ScV K H7 t C ∧ A.length = C.length ∧ Wide wd C := by
        have : f = 0 ∨ f = 1 := by omega
        rcases this with rfl | rfl
        · exact ⟨u, A, rfl, imm (R := ScV K) (pool_tk hB E7) hA, rfl, wA⟩
        · exact ⟨v, B, rfl, imm (R := ScV K) (pool_tk hB E7) hO, hl, wB⟩
      walk_at "rd"
      refine r_ixL (sqL (D7.at nm2 g6)) hC ?_
      obtain ⟨rj, hrj⟩ : ∃ rj, C[j]? = some rj := ⟨_, List.getElem?_eq_getElem (by omega)⟩
      have rjl := wC rj (List.mem_of_getElem? hrj)
      walk_at "rd"
      refine r_ixTV ht hrj fun u2 hu2 => ?_
      walk_at "rd"
      refine r_slB (i := b) (j := b + 1 + c) rfl (by omega) (by omega) (by omega) hu2 fun u3 H8 e8 hu3 => ?_
      walk_at "rd"
      refine r_small nsz fun p3 hp3 => ?_
      obtain ⟨H9, k9, e9, g9⟩ := new1 hp3 (.tup [V.int (j : Nat), V.int (b : Nat), u3])
      rw [show upd H8 p3 (.tup [V.int (j : Nat), V.int (b : Nat), u3]) = H9 from k9.symm]
      have e89 := e8.trans e9
      have gm9 := e89 _ _ (D7.at nm (e6 _ _ gm5))
      have hys9 := p2_imm (.ex e89) (p2_imm (pool_tk E6.st D7) (p2_imm (.ex e6) hys5))
      walk_at "rd"
      refine r_app gm9 (by rw [hys.len, ll, sizeLine_eq]; omega) ?_
      walk_at "rd"
      have tc : Tk H9 (upd H9 m (.lst (ys ++ [.ref p3]))) := .put gm9
      obtain ⟨aj, haj⟩ : ∃ aj, A[j]? = some aj := ⟨_, List.getElem?_eq_getElem (by omega)⟩
      have ajl := wA aj (List.mem_of_getElem? haj)
      refine ⟨_, _, _, _, rfl, (E7.then e89).put hm nm, _, L ++ [(j, b, (rj.drop b).take (b + 1 + c - b))], upd_same, (p2_imm tc hys9).snoc (imm (R := StV K) tc ⟨p3, u3, rfl, .inl g9, imm (R := RwV K) (.ex e9) hu3⟩), by rw [List.length_append, ll]; rfl, fun s hs => ?_⟩
      rcases List.mem_append.mp hs with h | h
      · exact lok s h
      · cases List.mem_singleton.mp h
        have tl : ((rj.drop b).take (b + 1 + c - b)).length = min (b + 1 + c - b) (rj.length - b) := by rw [List.length_take, List.length_drop]
        refine ⟨⟨aj, haj, ?_⟩, ?_⟩
        · show b + ((rj.drop b).take (b + 1 + c - b)).length ≤ aj.length
          omega
        · show 1 ≤ ((rj.drop b).take (b + 1 + c - b)).length
          omega
    · obtain ⟨y4, y5, y6, y7, rfl, D, ys, L, gm, hys, ll, lok⟩ := hP
      have yl := hys.len
      walk_at "rd"
      refine r_lenL (sqL gm) ?_
      walk_at "rd"
      refine r_ite (fun g => ?_) (fun g => ?_)
      · walk_at "rd"
        refine ⟨p, d, 2, rfl, D.st, by decide, fun f H3 f0 f1 D3 => ?_⟩
        have E3 := D.trans D3
        have gm3 := D3.at nm gm
        have hys3 := p2_imm (pool_tk D.st D3) hys
        walk_at "rd"
        refine r_iteB (fun _ => ?_) (fun _ => ?_)
        · obtain ⟨s0, hs0⟩ : ∃ s0, L[0]? = some s0 := ⟨_, List.getElem?_eq_getElem (by omega)⟩
          have sok := lok s0 (List.mem_of_getElem? hs0)
          walk_at "rd"
          refine r_tyL (sqL gm3) ?_
          walk_at "rd"
          refine r_ixLV (i := 0) (R := StV K) gm3 hys3 hs0 fun u2 hu2 => ?_
          obtain ⟨q2, u4, rfl, hq2, hu4⟩ := hu2
          walk_at "rd"
          refine r_ixT hq2.sq (atI_nat (j := 0) rfl) ?_
          walk_at "rd"
          refine r_ixLV (i := 0) (R := StV K) gm3 hys3 hs0 fun u2 hu2 => ?_
          obtain ⟨q3, u5, rfl, hq3, hu5⟩ := hu2
          walk_at "rd"
          refine r_ixT hq3.sq (atI_nat (j := 1) rfl) ?_
          walk_at "rd"
          refine r_small nsz fun t1 ht1 => ?_
          obtain ⟨H4, k4, e4, g4⟩ := new1 ht1 (.tup [V.str "z", V.int 8, V.int 7])
          rw [← k4]
          walk_at "rd"
          refine r_small nsz fun t2 ht2 => ?_
          obtain ⟨H5, k5, e5, g5⟩ := new1 ht2 (.tup [V.ref t1])
          rw [← k5]
          walk_at "rd"
          refine r_small nsz fun t3 ht3 => ?_
          obtain ⟨H6, k6, e6, g6⟩ := new1 ht3 (.tup [V.int (s0.1 : Nat), V.int (s0.2.1 : Nat), V.ref t2])
          rw [← k6]
          have e46 := (e4.trans e5).trans e6
          have gm6 := e46 _ _ gm3
          walk_at "rd"
          refine r_app gm6 (by rw [yl, ll, sizeLine_eq]; omega) ?_
          have tc : Tk H6 (upd H6 m (.lst (ys ++ [.ref t3]))) := .put gm6
          have hst : StV K H6 (.ref t3) (s0.1, s0.2.1, [(("z" : Str), (8 : Int), (7 : Int))]) := ⟨t3, _, rfl, .inl g6, t2, _, rfl, .inl (e6 _ _ g5), .cons (tl_of (c := 122) (by decide) (e6 _ _ (e5 _ _ g4))) .nil⟩
          have hys6 := (p2_imm tc (p2_imm (.ex e46) hys3)).snoc (imm (R := StV K) tc hst)
          walk_at "rd"
          refine r_tupLV upd_same hys6 fun p6 H8 hp6 e8 hT => ?_
          refine q _ _ _ (((E3.then e46).put hm nm).then e8) hT fun s hs => ?_
          rcases List.mem_append.mp hs with h | h
          · exact (lok s h).1
          · cases List.mem_singleton.mp h
            obtain ⟨⟨r, h1, h2⟩, h3⟩ := sok
            exact ⟨r, h1, by show s0.2.1 + 1 ≤ _; omega⟩
        · walk_at "rd"
          refine r_tupLV gm3 hys3 fun p6 H8 hp6 e8 hT => ?_
          exact q _ L _ (E3.then e8) hT fun s h => (lok s h).1
      · walk_at "rd"
        refine r_tupLV gm hys fun p6 H8 hp6 e8 hT => ?_
        exact q _ L _ (D.then e8) hT fun s h => (lok s h).1
theorem sum_bnd {ps : List Str} {b : Nat} (h : ∀ x ∈ ps, x.length ≤ b) : (ps.map (·.length)).sum ≤ ps.length * b := by
  induction ps with
  | nil => exact Nat.zero_le _
  | cons x r ih =>
    have h1 := h x (List.mem_cons_self ..)
    have h2 := ih fun y hy => h y (List.mem_cons_of_mem _ hy)
    rw [List.map_cons, List.sum_cons, List.length_cons, Nat.add_mul]
    omega
theorem ok_law_text (T : Txt K mg) : FnOk P w K mg base CX0 2 T.a_law_text T.d_law_text ["_law_pool_here"] spText := by
  refine T.F_law_text.ok sc_law_text (fun vs H Q E h => ?_) (fun cdv A outer s H vs Q E hr h => ?_)
  · obtain ⟨p, d, rfl, _⟩ := h
    rfl
  · obtain ⟨p, d, rfl, hB, q⟩ := h
    refine ⟨_, (pss_cons (ps_set (i := 1) sc_law_text.nd rfl (Or.inl rfl) (pe_call0 (ok_law_signs T) hr (by rfl) T.g_law_signs T.F_law_signs.kp T.b_law_signs .nil pass0))
        (pss_cons (ps_set (i := 2) sc_law_text.nd rfl (Or.inr rfl) (pe_op op_addU pe_str (pe_ix ix_seq (pv 1) (pe_call (ok_law_next T) hr (by rfl) T.g_law_next T.F_law_next.kp T.b_law_next .nil pass0 (pa_cons (pv 0) (pa_cons pe_int pa_nil))) (fun _ _ => rfl))))
        (pss_one (ps_ret (pe_join pe_str (pe_lc (own := [("_law_k", 3)]) (g := gName 3) rfl sc_law_text.nd (pi_range1 (by rfl) T.n_range (pa_cons (pe_call (ok_law_next T) hr (by rfl) T.g_law_next T.F_law_next.kp T.b_law_next .nil pass0 (pa_cons (pv 0) (pa_cons pe_int pa_nil))) pa_nil)) (blkOk_by (N := N_law_text) (sc := defScope s_law_text) (by decide +kernel)) (fun _ _ _ _ _ => pg_name (i := 3) sc_law_text.nd rfl (Or.inl rfl)) (fun _ _ _ _ _ => pts_nil) (fun _ _ _ _ _ => (pe_ix (k_ix (K := K) rfl) (pv 2) (pe_call (ok_law_next T) hr (by rfl) T.g_law_next T.F_law_next.kp T.b_law_next .nil pass0 (pa_cons (pv 0) (pa_cons (pe_callB (k_len (K := K) rfl) (by rfl) T.n_len (by decide +kernel) (pa_cons (pv 2) pa_nil)) pa_nil))) (fun _ _ => rfl))))))))), ?_⟩
    walk_at "rd"
    refine ⟨rfl, ?_⟩
    walk_at "rd"
    refine ⟨p, d, 95, rfl, hB, by decide, fun c H1 c0 c1 D1 => ?_⟩
    obtain ⟨x, hx, hx2⟩ := sg_at (i := c) (by omega) (by omega)
    walk_at "rd"
    refine r_ixS (by rw [SG_len]; decide) hx ?_
    walk_at "rd"
    refine r_addS (by rw [sizeLine_eq]; show 4 + 1 ≤ _; omega) ?_
    obtain ⟨m, hm⟩ : ∃ m : Str, m = "ab \n" ++ (⟨#[x]⟩ : Str) := ⟨_, rfl⟩
    rw [← hm]
    have ml : m.length = 5 := by rw [hm, app_len]; rfl
    have mo : OkZ m := fun y hy => by
      rw [hm, cs_app] at hy
      rcases List.mem_append.mp hy with h | h
      · exact (show ∀ y ∈ cs ("ab \n" : Str), y < 1114112 by decide) y h
      · exact okz_one hx2 y h
    have mz : m.length ≤ sizeLine := by rw [sizeLine_eq]; omega
    walk_at "rd"
    refine ⟨⟨_, rfl⟩, ?_⟩
    walk_at "rd"
    refine ⟨p, d, 24, rfl, D1.st, by decide, fun n H2 n0 n1 D2 => ?_⟩
    have E2 := D1.trans D2
    walk_at "rd"
    refine l_lcR (by omega) (by omega) (fun C i H3 => Drw (pool p d) H H3 ∧ ∃ ls : List Nat, H3 C = some (.lst ((ls.map fun c => (⟨#[c]⟩ : Str)).map V.str)) ∧ ls.length = i ∧ ∀ c ∈ ls, c < 1114112) (fun C hC => ⟨E2.new hC, [], upd_same, rfl, fun _ h => nomatch h⟩) (fun C i H3 hC hi hP => ?_) (fun C H3 hC hP => ?_)
    · obtain ⟨D3, ls, gC, hl, ho⟩ := hP
      have na := (pool p d).fresh E2.st hC
      walk_at "rd"
      refine ⟨rfl, ?_⟩
      walk_at "rd"
      refine r_lenS mz ?_
      walk_at "rd"
      refine ⟨p, d, _, rfl, D3.st, by omega, fun v H4 v0 v1 D4 => ?_⟩
      have hl5 : (cs m).length = m.length := cs_len m
      have hi5 : v.toNat < (cs m).length := by omega
      walk_at "rd"
      refine r_ixS mz (at_g (by omega) (List.getElem?_eq_getElem hi5)) ?_
      refine ⟨_, D4.at na gC, by rw [List.length_map, List.length_map, sizeLine_eq]; omega, (D3.trans D4).put (dr_none E2 hC) na, ls ++ [(cs m)[v.toNat]], by rw [upd_same, List.map_append, List.map_append]; rfl, by rw [List.length_append, hl]; rfl, fun y hy => ?_⟩
      rcases List.mem_append.mp hy with h | h
      · exact ho y h
      · rw [List.mem_singleton.mp h]
        exact mo _ (List.getElem_mem hi5)
    · obtain ⟨D3, ls, gC, hl, ho⟩ := hP
      have hcs : cs (Txt.join "" (ls.map fun c => (⟨#[c]⟩ : Str))) = ls := by
        rw [cs_join, List.map_map]
        clear hl gC ho
        induction ls with
        | nil => rfl
        | cons c r ih => rw [List.map_cons, List.flatten_cons, ih]; rfl
      refine ⟨"", C, _, rfl, rfl, .inl (sqL gC), ?_, q _ _ D3 (by rw [← cs_len, hcs]; omega) (fun y hy => ho y (by rw [hcs] at hy; exact hy))⟩
      have hb := sum_bnd (ps := ls.map fun c => (⟨#[c]⟩ : Str)) (b := 1) fun x hx => by
        obtain ⟨c, _, rfl⟩ := List.mem_map.mp hx
        exact Nat.le_refl 1
      have h5 : ("" : Str).length = 0 := rfl
      rw [h5, Nat.mul_zero, Nat.add_zero]
      rw [List.length_map] at hb
      omega
end
end K63

set_option maxHeartbeats 400000
namespace Dk
open PySem PySem.Spec PyProof.Rows L2
def tNvT : TT := fun _ _ _ => False
theorem pt_never {X : Cx} {e : Expr} : PT X e tNvT := ⟨fun _ _ _ _ _ _ h => h.elim⟩
end Dk
namespace K63
open PySem PySem.Spec PyProof.Rows L2 Dk Q61 Wd M63
/-- one step of a reading -/
local macro_rules | `(tactic| walk_at "rd1") => `(tactic| first
  | ((with_reducible refine r_var (v := ?rv) ?rh ?_); (case rh => rfl))
  | with_reducible refine r_c ?_
  | with_reducible refine r_seq ?_
  | with_reducible refine r_asg ?_
  | with_reducible refine r_par ?_
  | with_reducible refine r_gname ?_
  | with_reducible refine r_op ?_
  | with_reducible refine r_forLo ?_
  | with_reducible refine r_forTo ?_
  | with_reducible refine r_forSo ?_
  | with_reducible refine r_forRo ?_
  | with_reducible refine r_forRvo ?_
  | with_reducible refine r_forZo ?_
  | with_reducible refine r_revS ?_
  | with_reducible refine r_lcRo ?_
  | with_reducible refine r_lcLo ?_
  | with_reducible refine r_yes ?_
  | with_reducible refine r_callK0 ?_
  | with_reducible refine r_break ?_
  | with_reducible refine r_continue ?_
  | with_reducible refine r_forR2o ?_
  | with_reducible refine r_forEo ?_
  | with_reducible refine r_forESo ?_
  | with_reducible refine r_xfo ?_
  | with_reducible refine r_noP ?_
  | with_reducible refine r_part ?_
  | with_reducible refine r_pI ?_
  | with_reducible refine r_gcons ?_
  | with_reducible refine r_gnil ?_
  | with_reducible refine r_mkO ?_
  | with_reducible refine r_un ?_
  | with_reducible refine r_addI ?_
  | with_reducible refine r_I0 ?_
  | with_reducible refine r_U ?_
  | with_reducible refine r_cons ?_
  | with_reducible refine r_nil ?_
  | with_reducible refine r_CB ?_
  | with_reducible refine r_call ?_
  | with_reducible refine r_callS ?_
  | with_reducible refine r_int ?_
  | with_reducible refine r_max ?_
  | with_reducible refine r_min ?_
  | with_reducible refine r_test ?_
  | with_reducible refine r_B ?_
  | with_reducible refine r_blv ?_
  | with_reducible refine r_and ?_
  | with_reducible refine r_or ?_
  | with_reducible refine r_not ?_
  | with_reducible refine r_andV ?_
  | with_reducible refine r_orV ?_
  | with_reducible refine r_notV ?_
  | with_reducible refine r_ifE ?_
  | with_reducible refine r_ifS ?_
  | with_reducible refine r_ret ?_
  | with_reducible refine r_retN ?_
  | with_reducible refine r_drop ?_
  | with_reducible refine r_next ?_
  | with_reducible refine r_sl ?_
  | with_reducible refine r_gsub ?_
  | with_reducible refine r_bm ?_
  | with_reducible refine r_bm0 ?_
  | with_reducible refine r_tup ?_
  | with_reducible refine r_lst ?_
  | with_reducible refine r_isN ?_
  | with_reducible refine r_notN ?_
  | with_reducible refine r_chain ?_
  | with_reducible refine r_callK ?_
  | with_reducible refine r_isB ?_
  | with_reducible refine r_lcEio ?_
  | with_reducible refine r_forEi ?_
  | with_reducible refine r_lcTo ?_
  | with_reducible refine r_lcSo ?_
  | with_reducible refine r_m1 ?_
  | with_reducible refine r_dget ?_
  | with_reducible refine r_din ?_
  | with_reducible refine r_dnotin ?_
  | with_reducible refine Tc.r_inC ?_
  | with_reducible refine Tc.r_getC ?_
  | with_reducible refine r_starC ?_
  | with_reducible refine r_callKS ?_
  | with_reducible refine Dk.r_fld ?_
  | with_reducible refine Dk.r_forNo ?_
  | with_reducible refine Dk.r_lcR2o ?_
  | with_reducible refine Dk.r_dcE ?_
  | with_reducible refine Dk.r_gsliT ?_
  | with_reducible refine Dk.r_dcTo ?_
  | with_reducible refine Dk.r_sfld ?_
  | with_reducible refine Dk.r_meth ?_
  | with_reducible refine Dk.r_methK ?_
  | with_reducible refine Dk.r_methT ?_
  | with_reducible refine Dk.r_makeK ?_
  | with_reducible refine r_itt ?_
  | with_reducible refine r_iff ?_
  | with_reducible refine r_ittN ?_
  | with_reducible refine r_iffN ?_
  | ((with_reducible refine r_ittD ?rh ?_); (case rh => rfl))
  | ((with_reducible refine r_iffD ?rh ?_); (case rh => rfl))
  | ((with_reducible refine r_modP ?rh ?_); (case rh => decide))
  | ((with_reducible refine r_eq ?rh ?_); (case rh => rfl))
  | ((with_reducible refine r_eqP ?rh ?_); (case rh => rfl))
  | ((with_reducible refine r_ne ?rh ?_); (case rh => rfl)))
local macro_rules | `(tactic| walk_at "rd") => `(tactic| repeat walk_at "rd1")
local macro_rules | `(tactic| walk_at "isi") => `(tactic| first | refine r_isi (b := true) (by assumption) (by decide +kernel) ?_ | refine r_isi (b := false) (by assumption) (by decide +kernel) ?_)
local macro_rules | `(tactic| walk_at "rs1") => `(tactic| first
  | with_reducible refine r_seq ?_
  | with_reducible refine r_asg ?_
  | with_reducible refine r_gname ?_
  | with_reducible refine r_ret ?_)
local macro_rules | `(tactic| walk_at "rs") => `(tactic| repeat walk_at "rs1")

/-! ### rows and pieces -/
theorem pcs_bd {n : Nat} {b : Bool} {z : Str} {x : Nat × Nat} (n0 : 1 ≤ n) (h : x ∈ pcs n b z) : x.1 ≤ x.2 ∧ x.2 ≤ z.length ∧ x.2 ≤ x.1 + n := by
  have ht := tt_is (b := b) (z := z) n0
  unfold pcs pcl at h
  obtain ⟨k, hk, rfl⟩ := List.mem_map.mp h
  have hk := List.mem_range.mp hk
  dsimp only
  by_cases g : k < tt n b z
  · rw [if_pos g]
    have h1 := gr_lt (sp := spc z) (bw := b) n0 (it (spc z) n b k)
    have h2 := gr_le (sp := spc z) (bw := b) n0 (it (spc z) n b k)
    have h3 := ht.lt k g
    show it (spc z) n b k ≤ gr (spc z) n b (it (spc z) n b k) ∧ gr (spc z) n b (it (spc z) n b k) ≤ z.length ∧ gr (spc z) n b (it (spc z) n b k) ≤ it (spc z) n b k + n
    omega
  · rw [if_neg g]
    have e : k = tt n b z := by omega
    subst e
    have h1 := ht.le
    have h2 := it_le (bw := b) n0 ht.lt
    omega
theorem sh_mem {n : Nat} {b : Bool} {ls : List Str} {x : Tri} : ∀ i, x ∈ sh n b ls [] i → ∃ z, ls[x.1]? = some z ∧ (x.2.1, x.2.2) ∈ pcs n b z
  | 0, h => absurd (show x ∈ ([] : List Tri) from h) List.not_mem_nil
  | i + 1, h => by
    cases e : ls[i]? with
    | none => rw [sh, e] at h; dsimp only at h; rw [List.append_nil] at h; exact sh_mem i h
    | some z =>
      rw [sh_out e List.not_mem_nil] at h
      rcases List.mem_append.mp h with h | h
      · exact sh_mem i h
      · obtain ⟨p, hp, rfl⟩ := List.mem_map.mp h
        exact ⟨z, e, hp⟩
theorem join_in : ∀ (l : List Str) (s p : Str) (c : Nat), p ∈ l → c ∈ cs p → c ∈ cs (PySem.Str.join s l)
  | [], s, p, c, hp, h => by cases hp
  | [q], s, p, c, hp, h => by rw [List.mem_singleton.mp hp] at h; exact h
  | q :: q2 :: l, s, p, c, hp, h => by
    show c ∈ cs (q ++ s ++ PySem.Str.join s (q2 :: l))
    rw [cs_app, cs_app]
    rcases List.mem_cons.mp hp with rfl | hp
    · exact List.mem_append_left _ (List.mem_append_left _ h)
    · exact List.mem_append_right _ (join_in (q2 :: l) s p c hp h)
theorem row_ok {z r : Str} (hz : OkZ z) (h : r ∈ PySem.Txt.split z "\n") : OkZ r := fun c hc => hz c (by
  have e := PySem.StrLaws.join_split z "\n"
  rw [← e]
  exact join_in _ _ _ _ h hc)
theorem row_short {z r : Str} (h : r ∈ PySem.Txt.split z "\n") : r.length ≤ z.length := PyProof.Rows.part_short h
theorem rows_len (z : Str) : (PySem.Txt.split z "\n").length ≤ z.length + 2 := PyProof.Rows.split_le z "\n"
/-! ### row_bounds, selected_flags -/
def spRB (K : PySem.W.Frag) : Sp := fun vs H Q _ => ∃ (z : Str) (j : Nat), vs = [.str z, .int (j : Nat)] ∧ z.length ≤ 700 ∧ j < (PySem.Txt.split z "\n").length ∧ ∀ (p : Addr) (a b : Int) H', Ex H H' → Tu K H' p [.int a, .int b] → Q (.ref p) H'
def spFlags (K : PySem.W.Frag) : Sp := fun vs H Q _ => ∃ (a : Int) (n : Nat) (v : V), vs = [.int a, .int (n : Nat), v] ∧ n ≤ 1000 ∧ TupV K IntV H v [] ∧ ∀ l H', Ex H H' → H' l = some (.lst (List.replicate n (.int 0))) → Q (.ref l) H'
section
variable {P : Program} {w : World} {K : PySem.W.Frag} {mg : Str → Option Value} {base : Heap}
theorem ok_low_high (T : Txt K mg) : FnOk P w K mg base CX0 1 T.a_low_high T.d_low_high ["pick"] (fun _ _ _ _ => False) :=
  ⟨fun _ _ _ _ h => h.elim, fun _ _ _ _ _ _ _ _ _ _ _ _ _ h => h.elim⟩
theorem ok_row_bounds (T : Txt K mg) : FnOk P w K mg base CX0 3 T.a_row_bounds T.d_row_bounds ["text", "line"] (spRB K) := by
  refine T.F_row_bounds.ok sc_row_bounds (fun vs H Q E h => ?_) (fun cdv A outer s H vs Q E hr h => ?_)
  · obtain ⟨z, j, rfl, _⟩ := h
    rfl
  · obtain ⟨z, j, rfl, hz, hj, q⟩ := h
    refine ⟨_, (pss_cons (ps_set (i := 2) sc_row_bounds.nd rfl (Or.inl rfl) (pe_bm PySem.F.plainAttrs_str PySem.F.slot_str_split PySem.F.type_str_split mt_split (pv 0) (pa_cons pe_str pa_nil)))
        (pss_cons (ps_if (pt_cmpR op_ge (pv 1) (pe_callB call_lenU (by rfl) T.n_len (by decide +kernel) (pa_cons (pv 2) pa_nil)) (nomark _)) (pss_one ps_never) pss_nil)
        (pss_cons (ps_set (i := 3) sc_row_bounds.nd rfl (Or.inl rfl) (pe_callB (cr_sum rfl) (by rfl) T.n_sum (by decide +kernel) (pa_cons (pe_lc (own := [("row", 4)]) (g := gName 4) rfl sc_row_bounds.nd (pi_list (pe_slice sl_U (pv 2) po_none (po_some (pv 1)))) (blkOk_by (N := N_row_bounds) (sc := defScope s_row_bounds) (by decide +kernel)) (fun _ _ _ _ _ => pg_name (i := 4) sc_row_bounds.nd rfl (Or.inl rfl)) (fun _ _ _ _ _ => pts_nil) (fun _ _ _ _ _ => (pe_op (k_add (K := K) rfl) (pe_callB (k_len (K := K) rfl) (by rfl) T.n_len (by decide +kernel) (pa_cons (pv 4) pa_nil)) pe_int))) pa_nil)))
        (pss_one (ps_ret (pe_tup (pa_cons (pv 3) (pa_cons (pe_op op_addU (pv 3) (pe_callB call_lenU (by rfl) T.n_len (by decide +kernel) (pa_cons (pe_ix ix_seq (pv 2) (pv 1) (fun _ _ => rfl)) pa_nil))) pa_nil)))))))), ?_⟩
    walk_at "rd"
    refine r_tyS ?_
    walk_at "rd"
    refine ⟨z, _, rfl, rfl, by decide, by rw [sizeLine_eq]; omega, fun R hR => ?_⟩
    obtain ⟨L, hL⟩ : ∃ L, L = PySem.Txt.split z "\n" := ⟨_, rfl⟩
    rw [← hL] at hj ⊢
    have ll : L.length ≤ 702 := by have := rows_len z; rw [← hL] at this; omega
    have short : ∀ a ∈ L, a.length ≤ 700 := fun a ha => by rw [hL] at ha; exact Nat.le_trans (row_short ha) hz
    obtain ⟨H1, k1, e1, h1⟩ := new1 hR (.lst (L.map V.str))
    rw [← k1]
    walk_at "rd"
    refine r_lenL (sqL h1) ?_
    rw [List.length_map]
    walk_at "rd"
    refine r_ite (fun c => absurd c (by omega)) (fun _ => ?_)
    walk_at "rd"
    refine r_slL (sqL h1) fun t ht => ?_
    rw [cutV_to, ← List.map_take]
    obtain ⟨H2, k2, e2, h2⟩ := new1 ht (.lst ((L.take j).map V.str))
    rw [← k2]
    refine l_lcL (sqL h2) (fun C i H3 => Ex H2 H3 ∧ H3 C = some (.lst ((((L.take j).take i).map fun r => ((r.length : Nat) : Int) + 1).map V.int))) (fun C hC => ⟨Same.new (Same.refl _) hC, upd_same⟩) (fun C i H3 hP => sqL (hP.1 _ _ h2)) (fun C i x H3 hC hx hP => ?_) (fun C H3 hC hP => ?_)
    · obtain ⟨e, gC⟩ := hP
      rw [List.getElem?_map] at hx
      obtain ⟨a, ha, rfl⟩ := Option.map_eq_some_iff.mp hx
      have am := short a (List.mem_of_mem_take (List.mem_of_getElem? ha))
      walk_at "rd"
      refine ⟨rfl, ?_⟩
      walk_at "rd"
      refine r_lenS (by rw [sizeLine_eq]; omega) ?_
      walk_at "rd"
      refine ⟨_, gC, by rw [List.length_map, List.length_map, List.length_take, List.length_take, sizeLine_eq]; omega, Same.mut e hC, ?_⟩
      rw [upd_same, List.take_add_one, ha, List.map_append, List.map_append]
      rfl
    · obtain ⟨e, gC⟩ := hP
      walk_at "rd"
      refine ⟨C, _, rfl, sqL gC, ?_⟩
      generalize ((((L.take j).take (((L.take j).map V.str).length)).map fun r => ((r.length : Nat) : Int) + 1)).sum = s
      walk_at "rd"
      obtain ⟨r, hr1⟩ : ∃ r, L[j]? = some r := ⟨_, List.getElem?_eq_getElem hj⟩
      have rs := short r (List.mem_of_getElem? hr1)
      refine r_ixL (sqL (e _ _ (e2 _ _ h1))) (atI_nat (by rw [List.getElem?_map, hr1]; rfl)) ?_
      walk_at "rd"
      refine r_lenS (by rw [sizeLine_eq]; omega) ?_
      walk_at "rd"
      refine r_small nsz fun p hp => ?_
      exact q p _ _ _ (((e1.trans e2).trans e).trans (Same.new (Same.refl _) hp)) (.inl upd_same)
theorem ok_selected_flags (T : Txt K mg) : FnOk P w K mg base CX0 1 T.a_selected_flags T.d_selected_flags ["begin", "many", "stretches"] (spFlags K) := by
  refine T.F_selected_flags.ok sc_selected_flags (fun vs H Q E h => ?_) (fun cdv A outer s H vs Q E hr h => ?_)
  · obtain ⟨a, n, v, rfl, _⟩ := h
    rfl
  · obtain ⟨a, n, v, rfl, hn, hv, q⟩ := h
    refine ⟨_, (pss_cons (ps_set (i := 3) sc_selected_flags.nd rfl (Or.inl rfl) (pe_op op_rep (pe_lst (pa_cons pe_int pa_nil)) (pv 1)))
        (pss_cons (ps_for PassesOwn.never rfl (pi_tup (pv 2)) (pg_tup rfl (pgs_cons (pg_name (i := 4) sc_selected_flags.nd rfl (Or.inl rfl)) (pgs_cons (pg_name (i := 5) sc_selected_flags.nd rfl (Or.inl rfl)) pgs_nil))) (pss_one (ps_for PassesOwn.never rfl (pi_range2 (by rfl) T.n_range (pa_cons (pe_callB (call_maxU rfl) (by rfl) T.n_max (by decide +kernel) (pa_cons (pe_op op_sub (pv 4) (pv 0)) (pa_cons pe_int pa_nil))) (pa_cons (pe_callB (call_minU rfl) (by rfl) T.n_min (by decide +kernel) (pa_cons (pe_op op_sub (pv 5) (pv 0)) (pa_cons (pv 1) pa_nil))) pa_nil))) (pg_name (i := 6) sc_selected_flags.nd rfl (Or.inl rfl)) (pss_one (ps_asg (pe_glob (v := .int 1) rfl T.g_SELECTED ⟨_, rfl⟩) (pg_sub (pv 3) (pv 6) set_list))))))
        (pss_one (ps_ret (pv 3))))), ?_⟩
    obtain ⟨c, xs, rfl, hc, hx⟩ := hv
    cases hx
    walk_at "rd"
    refine r_small nsz fun l hl => ?_
    obtain ⟨H1, k1, e1, h1⟩ := new1 hl (.lst [V.int 0])
    rw [← k1]
    walk_at "rd"
    refine r_repL h1 (by omega) fun l2 hl2 => ?_
    obtain ⟨H2, k2, e2, h2⟩ := new1 hl2 (.lst (List.replicate n (V.int 0)))
    rw [← k2]
    walk_at "rd"
    refine l_T (hc.up (e1.trans e2)).sq (fun i σ H' => i = 0 ∧ σ = [some (.int a), some (.int (n : Nat)), some (.ref c), some (.ref l2), none, none, none] ∧ H' = H2) ⟨rfl, rfl, rfl⟩ (fun i σ H' hP => ?_) (fun i x σ H' hx hP => by cases hx) (fun σ H' hP => ?_)
    · obtain ⟨_, _, rfl⟩ := hP
      exact (hc.up (e1.trans e2)).sq
    · obtain ⟨_, rfl, rfl⟩ := hP
      walk_at "rd"
      exact q l2 _ (e1.trans e2) h2
end
end K63

set_option maxHeartbeats 400000
namespace K63
open PySem PySem.Spec PyProof.Rows L2 Dk Q61 Wd M63
/-- one step of a reading -/
local macro_rules | `(tactic| walk_at "rd1") => `(tactic| first
  | ((with_reducible refine r_var (v := ?rv) ?rh ?_); (case rh => rfl))
  | with_reducible refine r_c ?_
  | with_reducible refine r_seq ?_
  | with_reducible refine r_asg ?_
  | with_reducible refine r_par ?_
  | with_reducible refine r_gname ?_
  | with_reducible refine r_op ?_
  | with_reducible refine r_forLo ?_
  | with_reducible refine r_forTo ?_
  | with_reducible refine r_forSo ?_
  | with_reducible refine r_forRo ?_
  | with_reducible refine r_forRvo ?_
  | with_reducible refine r_forZo ?_
  | with_reducible refine r_revS ?_
  | with_reducible refine r_lcRo ?_
  | with_reducible refine r_lcLo ?_
  | with_reducible refine r_yes ?_
  | with_reducible refine r_callK0 ?_
  | with_reducible refine r_break ?_
  | with_reducible refine r_continue ?_
  | with_reducible refine r_forR2o ?_
  | with_reducible refine r_forEo ?_
  | with_reducible refine r_forESo ?_
  | with_reducible refine r_xfo ?_
  | with_reducible refine r_noP ?_
  | with_reducible refine r_part ?_
  | with_reducible refine r_pI ?_
  | with_reducible refine r_gcons ?_
  | with_reducible refine r_gnil ?_
  | with_reducible refine r_mkO ?_
  | with_reducible refine r_un ?_
  | with_reducible refine r_addI ?_
  | with_reducible refine r_I0 ?_
  | with_reducible refine r_U ?_
  | with_reducible refine r_cons ?_
  | with_reducible refine r_nil ?_
  | with_reducible refine r_CB ?_
  | with_reducible refine r_call ?_
  | with_reducible refine r_callS ?_
  | with_reducible refine r_int ?_
  | with_reducible refine r_max ?_
  | with_reducible refine r_min ?_
  | with_reducible refine r_test ?_
  | with_reducible refine r_B ?_
  | with_reducible refine r_blv ?_
  | with_reducible refine r_and ?_
  | with_reducible refine r_or ?_
  | with_reducible refine r_not ?_
  | with_reducible refine r_andV ?_
  | with_reducible refine r_orV ?_
  | with_reducible refine r_notV ?_
  | with_reducible refine r_ifE ?_
  | with_reducible refine r_ifS ?_
  | with_reducible refine r_ret ?_
  | with_reducible refine r_retN ?_
  | with_reducible refine r_drop ?_
  | with_reducible refine r_next ?_
  | with_reducible refine r_sl ?_
  | with_reducible refine r_gsub ?_
  | with_reducible refine r_bm ?_
  | with_reducible refine r_bm0 ?_
  | with_reducible refine r_tup ?_
  | with_reducible refine r_lst ?_
  | with_reducible refine r_isN ?_
  | with_reducible refine r_notN ?_
  | with_reducible refine r_chain ?_
  | with_reducible refine r_callK ?_
  | with_reducible refine r_isB ?_
  | with_reducible refine r_lcEio ?_
  | with_reducible refine r_forEi ?_
  | with_reducible refine r_lcTo ?_
  | with_reducible refine r_lcSo ?_
  | with_reducible refine r_m1 ?_
  | with_reducible refine r_dget ?_
  | with_reducible refine r_din ?_
  | with_reducible refine r_dnotin ?_
  | with_reducible refine Tc.r_inC ?_
  | with_reducible refine Tc.r_getC ?_
  | with_reducible refine r_starC ?_
  | with_reducible refine r_callKS ?_
  | with_reducible refine Dk.r_fld ?_
  | with_reducible refine Dk.r_forNo ?_
  | with_reducible refine Dk.r_lcR2o ?_
  | with_reducible refine Dk.r_dcE ?_
  | with_reducible refine Dk.r_gsliT ?_
  | with_reducible refine Dk.r_dcTo ?_
  | with_reducible refine Dk.r_sfld ?_
  | with_reducible refine Dk.r_meth ?_
  | with_reducible refine Dk.r_methK ?_
  | with_reducible refine Dk.r_methT ?_
  | with_reducible refine Dk.r_makeK ?_
  | with_reducible refine r_itt ?_
  | with_reducible refine r_iff ?_
  | with_reducible refine r_ittN ?_
  | with_reducible refine r_iffN ?_
  | ((with_reducible refine r_ittD ?rh ?_); (case rh => rfl))
  | ((with_reducible refine r_iffD ?rh ?_); (case rh => rfl))
  | ((with_reducible refine r_modP ?rh ?_); (case rh => decide))
  | ((with_reducible refine r_eq ?rh ?_); (case rh => rfl))
  | ((with_reducible refine r_eqP ?rh ?_); (case rh => rfl))
  | ((with_reducible refine r_ne ?rh ?_); (case rh => rfl)))
local macro_rules | `(tactic| walk_at "rd") => `(tactic| repeat walk_at "rd1")
local macro_rules | `(tactic| walk_at "isi") => `(tactic| first | refine r_isi (b := true) (by assumption) (by decide +kernel) ?_ | refine r_isi (b := false) (by assumption) (by decide +kernel) ?_)
local macro_rules | `(tactic| walk_at "rs1") => `(tactic| first
  | with_reducible refine r_seq ?_
  | with_reducible refine r_asg ?_
  | with_reducible refine r_gname ?_
  | with_reducible refine r_ret ?_)
local macro_rules | `(tactic| walk_at "rs") => `(tactic| repeat walk_at "rs1")

theorem r_inT {K : PySem.W.Frag} {H : Hp} {Q : VK} {v : V} {k : Nat} {ns : List Nat} (hv : TupV K IntV H v ns) (q : Q (.bl (decide (k ∈ ns))) H) : rInU K (.int (k : Nat)) v H Q := by
  obtain ⟨p, xs, rfl, hp, hx⟩ := hv
  refine .inr ⟨p, _, rfl, .inr hp.sq, rfl, by rw [p2_ints hx]; exact flat_ints, ?_⟩
  show Q (.bl (inV (.int (k : Nat)) xs)) H
  rw [p2_ints hx, inV_ints, decide_eq_decide.mpr mem_ofNat]
  exact q
/-! ### the tiler: its state -/
def fsT (z : Str) (w : Nat) (rv hv lv sv : V) (hd : Addr) : List (Str × V) := [("letters", .str z), ("rows", rv), ("tints", .non), ("width", .int (w : Nat)), ("hidden", hv), ("laid_rows", lv), ("stretches", sv), ("heads", .ref hd)]
/-- the screen's rows of a text -/
noncomputable def srw (n : Nat) (b : Bool) (z : Str) : List Tri := sh n b (PySem.Txt.split z "\n") [] (PySem.Txt.split z "\n").length
structure TlrD (K : PySem.W.Frag) (H : Hp) (z : Str) (n : Nat) (b : Bool) (rv hv lv sv : V) (hd : Addr) : Prop where
  r : TupV K StrV H rv (PySem.Txt.split z "\n")
  h : TupV K IntV H hv []
  l : TupV K (TrV K) H lv (srw n b z)
  s : TupV K IntV H sv []
  d : H hd = some (.dT [])
def Tlr (K : PySem.W.Frag) (H : Hp) (C L : Addr) (z : Str) (n : Nat) (b : Bool) : Prop := ∃ dx rv hv lv sv hd, H L = some (.ins C dx (fsT z n rv hv lv sv hd)) ∧ TlrD K H z n b rv hv lv sv hd
theorem TlrD.up {K : PySem.W.Frag} {H H' : Hp} {z : Str} {n : Nat} {b : Bool} {rv hv lv sv : V} {hd : Addr} (e : Ex H H') (t : TlrD K H z n b rv hv lv sv hd) : TlrD K H' z n b rv hv lv sv hd :=
  ⟨imm (R := TupV K StrV) (.ex e) t.r, imm (R := TupV K IntV) (.ex e) t.h, imm (R := TupV K (TrV K)) (.ex e) t.l, imm (R := TupV K IntV) (.ex e) t.s, e _ _ t.d⟩
theorem Tlr.up {K : PySem.W.Frag} {H H' : Hp} {C L : Addr} {z : Str} {n : Nat} {b : Bool} (e : Ex H H') (t : Tlr K H C L z n b) : Tlr K H' C L z n b := by
  obtain ⟨dx, rv, hv, lv, sv, hd, h1, h2⟩ := t
  exact ⟨dx, rv, hv, lv, sv, hd, e _ _ h1, h2.up e⟩
/-- a field is put: only the object changes -/
theorem stf {H : Hp} {x C dx : Addr} {fs : List (Str × V)} (h : H x = some (.ins C dx fs)) (fs' : List (Str × V)) : ∃ H1, H1 = upd H x (.ins C dx fs') ∧ H1 x = some (.ins C dx fs') ∧ Off (· = x) H H1 ∧ Tk H H1 :=
  ⟨_, rfl, upd_same, fun y o ny e => by rw [upd_ne ny]; exact e, tk_in h⟩
theorem Off.tr {A : Addr → Prop} {H H1 H2 : Hp} (a : Off A H H1) (b : Off A H1 H2) : Off A H H2 := fun x o n h => b x o n (a x o n h)
theorem Off.ex {A : Addr → Prop} {H H1 : Hp} (e : Ex H H1) : Off A H H1 := fun x o _ h => e x o h
theorem Lay.offx {K : PySem.W.Frag} {H H' : Hp} {C C2 L dk ln x dx : Addr} {n : Nat} {b : Bool} {kn ls : List Str} (lay : Lay K H C L dk ln n b kn ls) (nL : L ≠ x) (hx : H x = some (.ins C2 dx [])) (off : Off (· = x) H H') (t : Tk H H') : Lay K H' C L dk ln n b kn ls := by
  obtain ⟨⟨d1, h1⟩, ⟨kvs, h2, h3⟩, lv, h4, h5⟩ := lay
  have n2 : dk ≠ x := fun z => by rw [z, hx] at h2; cases h2
  have n3 : ln ≠ x := fun z => by rw [z, hx] at h4; cases h4
  exact ⟨⟨d1, off _ _ nL h1⟩, ⟨kvs, off _ _ n2 h2, h3.tk t⟩, lv, off _ _ n3 h4, p2_imm t h5⟩
def spTInit (C Cl : Addr) (K : PySem.W.Frag) : Sp := fun vs H Q _ => ∃ (x dx L dk ln pk : Addr) (z : Str) (n : Nat) (b : Bool) (kn : List Str) (hv : V), vs = [.ref x, .str z, .non, .ref L, .ref pk, hv] ∧ H x = some (.ins C dx []) ∧ Lay K H Cl L dk ln n b kn (PySem.Txt.split z "\n") ∧ L ≠ x ∧
  Tu K H pk [] ∧ TupV K IntV H hv [] ∧ z.length ≤ 100 ∧ 1 ≤ n ∧ ∀ H', Off (· = x) H H' → Tlr K H' C x z n b → Q .non H'
def spIx (C : Addr) (K : PySem.W.Frag) : Sp := fun vs H Q _ => ∃ (L : Addr) (z : Str) (n : Nat) (b : Bool), vs = [.ref L, .int 0] ∧ Tlr K H C L z n b ∧ z.length ≤ 100 ∧ 1 ≤ n ∧ ∀ m H', Ex H H' → m ≤ 100000 → Q (.int (m : Nat)) H'
def spFold (C : Addr) (K : PySem.W.Frag) : Sp := fun vs H Q _ => ∃ (L : Addr) (z : Str) (n : Nat) (b : Bool) (i : Nat) (x : Tri), vs = [.ref L, .int (i : Nat)] ∧ Tlr K H C L z n b ∧ z.length ≤ 100 ∧ 1 ≤ n ∧ (srw n b z)[i]? = some x ∧ ∀ c H', Ex H H' → Q (.bl c) H'
def spCol (C : Addr) (K : PySem.W.Frag) : Sp := fun vs H Q _ => ∃ (L : Addr) (z : Str) (n : Nat) (b : Bool) (v : V) (s e : Nat), vs = [.ref L, v, .int (s : Nat), .int (e : Nat)] ∧ Tlr K H C L z n b ∧ s ≤ e ∧ e ≤ 1000 ∧ ∀ l H', Ex H H' → H' l = some (.lst (List.replicate (e - s) (.int 0))) → Q (.ref l) H'
theorem noT {m : Str} {z : Str} {w : Nat} {rv hv lv sv : V} {hd : Addr} (h : (["letters", "rows", "tints", "width", "hidden", "laid_rows", "stretches", "heads"] : List Str).all (fun s => decide (m ≠ s)) = true) : (fsT z w rv hv lv sv hd).lookup m = none := by
  unfold fsT
  have hb : ∀ s : Str, s ∈ (["letters", "rows", "tints", "width", "hidden", "laid_rows", "stretches", "heads"] : List Str) → (m == s) = false := fun s hs => by
    rw [beq_eq_false_iff_ne]
    exact of_decide_eq_true (List.all_eq_true.mp h s hs)
  simp only [List.lookup_cons]
  rw [hb "letters" (by simp), hb "rows" (by simp), hb "tints" (by simp), hb "width" (by simp), hb "hidden" (by simp), hb "laid_rows" (by simp), hb "stretches" (by simp), hb "heads" (by simp)]
  rfl
section
variable {z r : Str} {n : Nat} {b : Bool} {i : Nat} {x : Tri}
theorem srw_mem (n0 : 1 ≤ n) (h : (srw n b z)[i]? = some x) : ∃ r, (PySem.Txt.split z "\n")[x.1]? = some r ∧ x.2.1 ≤ x.2.2 ∧ x.2.2 ≤ r.length ∧ x.2.2 ≤ x.2.1 + n := by
  obtain ⟨r, h1, h2⟩ := sh_mem _ (List.mem_of_getElem? h)
  exact ⟨r, h1, pcs_bd n0 h2⟩
theorem srw_len (n0 : 1 ≤ n) (hz : z.length ≤ 100) : (srw n b z).length ≤ 100000 := by
  have h1 := sh_len (b := b) (aw := []) n0 (ls := PySem.Txt.split z "\n") (fun r hr => by have := row_short hr; omega) (PySem.Txt.split z "\n").length
  have h2 := rows_len z
  unfold srw
  omega
end
section
variable {P : Program} {w : World} {K : PySem.W.Frag} {mg : Str → Option Value} {base : Heap}
theorem ok_Tiler_init (T : Txt K mg) : FnOk P w K mg base CX0 5 T.a_Tiler_init T.d_Tiler_init ["self", "text", "tints", "layout", "picks", "hidden"] (spTInit T.c_Tiler T.c_Layout K) := by
  refine T.F_Tiler_init.ok sc_Tiler_init (fun vs H Q E h => ?_) (fun cdv A outer s H vs Q E hr h => ?_)
  · obtain ⟨x, dx, L, dk, ln, pk, z, n, b, kn, hv, rfl, _⟩ := h
    rfl
  · obtain ⟨x, dx, L, dk, ln, pk, z, n, b, kn, hv, rfl, hx, lay, nL, hpk, hhv, zl, n0, q⟩ := h
    refine ⟨_, (pss_cons (ps_fld (pv 0) (pv 1) rfl)
        (pss_cons (ps_fld (pv 0) (pe_call (ok_rows_of T) (hr.mono (by decide)) (by rfl) T.g_rows_of T.F_rows_of.kp T.b_rows_of .nil pass0 (pa_cons (pv 1) pa_nil)) rfl)
        (pss_cons (ps_fld (pv 0) (pv 2) rfl)
        (pss_cons (ps_fld (pv 0) (pe_fld (pv 3) rfl) rfl)
        (pss_cons (ps_fld (pv 0) (pv 5) rfl)
        (pss_cons (ps_fld (pv 0) (pe_meth (pv 3) T.k_Layout T.m_Layout_screen_rows (ok_Layout_screen_rows T) (hr.mono (by decide)) T.b_Layout_screen_rows .nil pass0 (pa_cons (pv 5) pa_nil)) rfl)
        (pss_cons (ps_fld (pv 0) (pe_call (ok_joined_stretches T) (hr.mono (by decide)) (by rfl) T.g_joined_stretches T.F_joined_stretches.kp T.b_joined_stretches .nil pass0 (pa_cons (pe_lc (own := [("pick", 8)]) (g := gName 8) rfl sc_Tiler_init.nd (pi_tup (pv 4)) (blkOk_by (N := N_Tiler_init) (sc := defScope s_Tiler_init) (by decide +kernel)) (fun _ _ _ _ _ => pg_name (i := 8) sc_Tiler_init.nd rfl (Or.inl rfl)) (fun _ _ _ _ _ => (pts_one Dk.pt_never)) (fun _ _ _ _ _ => pe_never)) pa_nil)) rfl)
        (pss_one (ps_fld (pv 0) (Dk.pe_dcE (own := [("_", 6), ("head", 7)]) (g := gTup K 2 (gCons (gName 6) (gCons (gName 7) gNil))) rfl sc_Tiler_init.nd (pv 4) Dk.mono_var (blkOk_by (N := N_Tiler_init) (sc := defScope s_Tiler_init) (by decide +kernel)) (fun _ _ _ _ _ => pg_tup rfl (pgs_cons (pg_name (i := 6) sc_Tiler_init.nd rfl (Or.inl rfl)) (pgs_cons (pg_name (i := 7) sc_Tiler_init.nd rfl (Or.inl rfl)) pgs_nil))) (fun _ _ _ _ _ => pts_nil) (fun _ _ _ _ _ => pe_never) (fun _ _ _ _ _ => pe_never)) rfl))))))))), ?_⟩
    walk_at "rd"
    refine r_sfldI hx T.k_Tiler T.na_Tiler_letters (by decide : 0 < 1000) ?_
    obtain ⟨H1, k1, x1, o1, t1⟩ := stf hx [("letters", .str z)]
    rw [show upd H x (.ins T.c_Tiler dx (putF "letters" (.str z) [])) = H1 from k1.symm]
    walk_at "rd"
    refine ⟨z, rfl, by omega, fun rv H2 e2 hrv => ?_⟩
    have x2 := e2 _ _ x1
    have o2 := o1.tr (.ex e2)
    have t2 := t1.trans (.ex e2)
    walk_at "rd"
    refine r_sfldI x2 T.k_Tiler T.na_Tiler_rows (by decide : 1 < 1000) ?_
    obtain ⟨H3, k3, x3, o3, t3⟩ := stf x2 [("letters", .str z), ("rows", rv)]
    rw [show upd H2 x (.ins T.c_Tiler dx (putF "rows" rv [("letters", .str z)])) = H3 from k3.symm]
    walk_at "rd"
    refine r_sfldI x3 T.k_Tiler T.na_Tiler_tints (by decide : 2 < 1000) ?_
    obtain ⟨H4, k4, x4, o4, t4⟩ := stf x3 [("letters", .str z), ("rows", rv), ("tints", .non)]
    rw [show upd H3 x (.ins T.c_Tiler dx (putF "tints" .non [("letters", .str z), ("rows", rv)])) = H4 from k4.symm]
    have oA := (o2.tr o3).tr o4
    have tA := (t2.trans t3).trans t4
    obtain ⟨⟨dL, hL⟩, _, _⟩ := lay.offx nL hx oA tA
    walk_at "rd"
    refine ⟨_, _, _, _, _, rfl, hL, T.k_Layout, T.na_Layout_width, atW, ?_⟩
    walk_at "rd"
    refine r_sfldI x4 T.k_Tiler T.na_Tiler_width (by decide : 3 < 1000) ?_
    obtain ⟨H5, k5, x5, o5, t5⟩ := stf x4 [("letters", .str z), ("rows", rv), ("tints", .non), ("width", .int (n : Nat))]
    rw [show upd H4 x (.ins T.c_Tiler dx (putF "width" (.int (n : Nat)) [("letters", .str z), ("rows", rv), ("tints", .non)])) = H5 from k5.symm]
    walk_at "rd"
    refine r_sfldI x5 T.k_Tiler T.na_Tiler_hidden (by decide : 4 < 1000) ?_
    obtain ⟨H6, k6, x6, o6, t6⟩ := stf x5 [("letters", .str z), ("rows", rv), ("tints", .non), ("width", .int (n : Nat)), ("hidden", hv)]
    rw [show upd H5 x (.ins T.c_Tiler dx (putF "hidden" hv [("letters", .str z), ("rows", rv), ("tints", .non), ("width", .int (n : Nat))])) = H6 from k6.symm]
    have oB := (oA.tr o5).tr o6
    have tB := (tA.trans t5).trans t6
    have lay6 := lay.offx nL hx oB tB
    obtain ⟨⟨dL6, hL6⟩, _, _⟩ := id lay6
    walk_at "rd"
    refine ⟨L, dL6, _, rfl, hL6, noF (by decide) (by decide) (by decide) (by decide), ?_⟩
    walk_at "rd"
    have rl := rows_len z
    refine ⟨L, dk, ln, n, b, kn, _, hv, [], rfl, lay6, imm (R := TupV K IntV) tB hhv, by decide, by omega, fun r hr => by have := row_short hr; omega, n0, fun lv H7 e7 hlv => ?_⟩
    have x7 := e7 _ _ x6
    walk_at "rd"
    refine r_sfldI x7 T.k_Tiler T.na_Tiler_laid_rows (by decide : 5 < 1000) ?_
    obtain ⟨H8, k8, x8, o8, t8⟩ := stf x7 [("letters", .str z), ("rows", rv), ("tints", .non), ("width", .int (n : Nat)), ("hidden", hv), ("laid_rows", lv)]
    rw [show upd H7 x (.ins T.c_Tiler dx (putF "laid_rows" lv [("letters", .str z), ("rows", rv), ("tints", .non), ("width", .int (n : Nat)), ("hidden", hv)])) = H8 from k8.symm]
    have oC := (oB.tr (.ex e7)).tr o8
    have tC := (tB.trans (.ex e7)).trans t8
    walk_at "rd"
    refine l_lcT (hpk.tk tC).sq (fun D i H9 => Ex H8 H9 ∧ H9 D = some (.lst [])) (fun D hD => ⟨Same.new (Same.refl _) hD, upd_same⟩) (fun D i H9 hP => ((hpk.tk tC).up hP.1).sq) (fun D i y H9 hD hy hP => by cases hy) (fun D H9 hD hP => ?_)
    obtain ⟨e9, g9⟩ := hP
    refine ⟨D, rfl, sqL g9, fun sv H10 e10 hsv => ?_⟩
    have x10 := e10 _ _ (e9 _ _ x8)
    walk_at "rd"
    refine r_sfldI x10 T.k_Tiler T.na_Tiler_stretches (by decide : 6 < 1000) ?_
    obtain ⟨H11, k11, x11, o11, t11⟩ := stf x10 [("letters", .str z), ("rows", rv), ("tints", .non), ("width", .int (n : Nat)), ("hidden", hv), ("laid_rows", lv), ("stretches", sv)]
    rw [show upd H10 x (.ins T.c_Tiler dx (putF "stretches" sv [("letters", .str z), ("rows", rv), ("tints", .non), ("width", .int (n : Nat)), ("hidden", hv), ("laid_rows", lv)])) = H11 from k11.symm]
    have oD := ((oC.tr (.ex e9)).tr (.ex e10)).tr o11
    have tD := ((tC.trans (.ex e9)).trans (.ex e10)).trans t11
    walk_at "rd"
    refine ⟨pk, rfl, (hpk.tk tD).sq, fun hd hhd => ?_⟩
    obtain ⟨H12, k12, e12, g12⟩ := new1 hhd (.dT [])
    rw [← k12]
    have x12 := e12 _ _ x11
    have nhd : hd ≠ x := fun e => by rw [e, x11] at hhd; cases hhd
    walk_at "rd"
    refine r_sfldI x12 T.k_Tiler T.na_Tiler_heads (by decide : 7 < 1000) ?_
    obtain ⟨H13, k13, x13, o13, t13⟩ := stf x12 (fsT z n rv hv lv sv hd)
    rw [show upd H12 x (.ins T.c_Tiler dx (putF "heads" (.ref hd) [("letters", .str z), ("rows", rv), ("tints", .non), ("width", .int (n : Nat)), ("hidden", hv), ("laid_rows", lv), ("stretches", sv)])) = H13 from k13.symm]
    walk_at "rd"
    have tE := (Tk.ex e12).trans t13
    refine q _ ((oD.tr (.ex e12)).tr o13) ⟨dx, rv, hv, lv, sv, hd, x13, ?_⟩
    have tF : Tk H2 H11 := (((((((t3.trans t4).trans t5).trans t6).trans (.ex e7)).trans t8).trans (.ex e9)).trans (.ex e10)).trans t11
    exact ⟨imm (R := TupV K StrV) (tF.trans tE) hrv, imm (R := TupV K IntV) (tD.trans tE) hhv, imm (R := TupV K (TrV K)) ((((t8.trans (.ex e9)).trans (.ex e10)).trans t11).trans tE) hlv, imm (R := TupV K IntV) (t11.trans tE) hsv, o13 _ _ nhd g12⟩
theorem ok_Tiler_index_at (T : Txt K mg) : FnOk P w K mg base CX0 4 T.a_Tiler_index_at T.d_Tiler_index_at ["self", "place"] (spIx T.c_Tiler K) := by
  refine T.F_Tiler_index_at.ok sc_Tiler_index_at (fun vs H Q E h => ?_) (fun cdv A outer s H vs Q E hr h => ?_)
  · obtain ⟨L, z, n, b, rfl, _⟩ := h
    rfl
  · obtain ⟨L, z, n, b, rfl, ⟨dx, rv, hv, lv, sv, hd, hL, hD⟩, zl, n0, q⟩ := h
    refine ⟨_, (pss_cons (ps_asg (pe_call (ok_spot_of T) hr (by rfl) T.g_spot_of T.F_spot_of.kp T.b_spot_of .nil pass0 (pa_cons (pe_fld (pv 0) rfl) (pa_cons (pv 1) pa_nil))) (pg_tup rfl (pgs_cons (pg_name (i := 2) sc_Tiler_index_at.nd rfl (Or.inl rfl)) (pgs_cons (pg_name (i := 3) sc_Tiler_index_at.nd rfl (Or.inl rfl)) pgs_nil))))
        (pss_one (ps_ret (pe_call (ok_row_at T) (hr.mono (by decide)) (by rfl) T.g_row_at T.F_row_at.kp T.b_row_at .nil pass0 (pa_cons (pe_fld (pv 0) rfl) (pa_cons (pv 2) (pa_cons (pv 3) pa_nil))))))), ?_⟩
    walk_at "rd"
    refine ⟨_, _, _, _, _, rfl, hL, T.k_Tiler, T.na_Tiler_letters, rfl, ?_⟩
    walk_at "rd"
    refine ⟨z, rfl, by omega, fun p H1 e1 hp => ?_⟩
    walk_at "rd"
    refine r_gtup hp.sq rfl ?_
    walk_at "rd"
    refine ⟨_, _, _, _, _, rfl, e1 _ _ hL, T.k_Tiler, T.na_Tiler_laid_rows, rfl, ?_⟩
    walk_at "rd"
    have h0 : 0 < (PySem.Txt.split z "\n").length := PyProof.Rows.split_pos z "\n"
    refine ⟨lv, 0, 0, _, rfl, (hD.up e1).l, sh_sorted n0 _, srw_len n0 zl, sh_zero n0 h0 (fun h => nomatch h), fun m H2 e2 hm => ?_⟩
    exact q m _ (e1.trans e2) (Nat.le_of_lt (Nat.lt_of_lt_of_le hm.lt (srw_len n0 zl)))
theorem ok_Tiler_is_above_fold (T : Txt K mg) : FnOk P w K mg base CX0 1 T.a_Tiler_is_above_fold T.d_Tiler_is_above_fold ["self", "index"] (spFold T.c_Tiler K) := by
  refine T.F_Tiler_is_above_fold.ok sc_Tiler_is_above_fold (fun vs H Q E h => ?_) (fun cdv A outer s H vs Q E hr h => ?_)
  · obtain ⟨L, z, n, b, i, x, rfl, _⟩ := h
    rfl
  · obtain ⟨L, z, n, b, i, x, rfl, ⟨dx, rv, hv, lv, sv, hd, hL, hD⟩, zl, n0, hx, q⟩ := h
    refine ⟨_, (pss_cons (ps_asg (pe_ix ix_seq (pe_fld (pv 0) rfl) (pv 1) (fun _ _ => rfl)) (pg_tup rfl (pgs_cons (pg_name (i := 2) sc_Tiler_is_above_fold.nd rfl (Or.inl rfl)) (pgs_cons (pg_name (i := 3) sc_Tiler_is_above_fold.nd rfl (Or.inl rfl)) (pgs_cons (pg_name (i := 4) sc_Tiler_is_above_fold.nd rfl (Or.inl rfl)) pgs_nil)))))
        (pss_one (ps_ret (pe_and (pe_cmpR (op_eqU hr.units) (pv 4) (pe_callB call_lenU (by rfl) T.n_len (by decide +kernel) (pa_cons (pe_ix ix_seq (pe_fld (pv 0) rfl) (pv 2) (fun _ _ => rfl)) pa_nil)) (nomark _)) (pe_one (pe_cmpR op_inU (pe_op op_addU (pv 2) pe_int) (pe_fld (pv 0) rfl) (by rfl))))))), ?_⟩
    obtain ⟨r, hr1, _, _, _⟩ := srw_mem n0 hx
    have rz := row_short (List.mem_of_getElem? hr1)
    walk_at "rd"
    refine ⟨_, _, _, _, _, rfl, hL, T.k_Tiler, T.na_Tiler_laid_rows, rfl, ?_⟩
    walk_at "rd"
    refine r_ixTV hD.l hx fun u hu => ?_
    obtain ⟨p, rfl, hp⟩ := hu
    walk_at "rd"
    refine r_gtup hp.sq rfl ?_
    walk_at "rd"
    refine ⟨_, _, _, _, _, rfl, hL, T.k_Tiler, T.na_Tiler_rows, rfl, ?_⟩
    walk_at "rd"
    refine r_ixTV hD.r hr1 fun u hu => ?_
    cases hu
    walk_at "rd"
    refine r_lenS (by rw [sizeLine_eq]; omega) ?_
    walk_at "rd"
    by_cases hc : V.int (x.2.2 : Nat) = V.int (r.length : Nat)
    · rw [if_pos (decide_eq_true hc)]
      walk_at "rd"
      refine ⟨_, _, _, _, _, rfl, hL, T.k_Tiler, T.na_Tiler_hidden, rfl, ?_⟩
      walk_at "rd"
      rw [show ((x.1 : Nat) : Int) + 1 = ((x.1 + 1 : Nat) : Int) by omega]
      refine r_inT hD.h ?_
      exact q _ _ (Same.refl H)
    · rw [if_neg (by rw [decide_eq_false hc]; decide)]
      exact q _ _ (Same.refl H)
theorem ok_Tiler_colours_of (T : Txt K mg) : FnOk P w K mg base CX0 2 T.a_Tiler_colours_of T.d_Tiler_colours_of ["self", "line", "start", "end"] (spCol T.c_Tiler K) := by
  refine T.F_Tiler_colours_of.ok sc_Tiler_colours_of (fun vs H Q E h => ?_) (fun cdv A outer s H vs Q E hr h => ?_)
  · obtain ⟨L, z, n, b, v, s, e, rfl, _⟩ := h
    rfl
  · obtain ⟨L, z, n, b, v, s, e, rfl, ⟨dx, rv, hv, lv, sv, hd, hL, hD⟩, hse, he, q⟩ := h
    refine ⟨_, (pss_cons (ps_if (pt_cmpR op_isU (pe_fld (pv 0) rfl) pe_non (nomark _)) (pss_one (ps_ret (pe_op op_rep (pe_lst (pa_cons pe_int pa_nil)) (pe_op op_sub (pv 3) (pv 2))))) pss_nil)
        (pss_one (ps_ret (pe_slice sl_U pe_never (po_some (pv 2)) (po_some (pv 3)))))), ?_⟩
    walk_at "rd"
    refine ⟨_, _, _, _, _, rfl, hL, T.k_Tiler, T.na_Tiler_tints, rfl, ?_⟩
    walk_at "rd"
    refine r_small nsz fun l hl => ?_
    obtain ⟨H1, k1, e1, h1⟩ := new1 hl (.lst [V.int 0])
    rw [← k1]
    walk_at "rd"
    rw [show ((e : Nat) : Int) - (s : Nat) = ((e - s : Nat) : Int) by omega]
    refine r_repL h1 (by omega) fun l2 hl2 => ?_
    exact q l2 _ (e1.trans (Same.new (Same.refl _) hl2)) upd_same
end
end K63

set_option maxHeartbeats 1000000
namespace Dk
open PySem PySem.Spec PyProof.Rows L2
theorem l_lcR2 {a n : Nat} {x y : Int} {g : TG} {tt : TT} {te : TE} {vs : List Nat} {σ : L2.St} {H1 : Hp} {Qd : Addr → Hp → Prop} (hx : x = (a : Nat)) (hy : y = ((a + n : Nat) : Int)) (h2 : a + n ≤ 1000000) (Pv : Addr → Nat → Hp → Prop) (h0 : ∀ D, H1 D = none → Pv D 0 (upd H1 D (.lst [])))
    (hs : ∀ D (i : Nat) H, H1 D = none → i < n → Pv D i H → g (.int ((a + i : Nat) : Int)) (wipe σ vs) H fun σ2 H2 => wipe σ2 vs = wipe σ vs ∧ tt σ2 H2 fun b H3 =>
      if b = true then te σ2 H3 fun y H4 => ∃ acc, H4 D = some (.lst acc) ∧ acc.length < sizeLine ∧ Pv D (i + 1) (upd H4 D (.lst (acc ++ [y]))) else Pv D (i + 1) H3) (hd : ∀ D H, H1 D = none → Pv D n H → Qd D H) :
    ∃ i j : Int, [V.int x, V.int y] = [.int i, .int j] ∧ (-(2 ^ 62) ≤ i ∧ i < 2 ^ 62 ∧ -(2 ^ 62) ≤ j ∧ j < 2 ^ 62) ∧ ∀ D, H1 D = none → ∃ W : Nat → Nat → Hp → Prop, (∃ m, W 0 m (upd H1 D (.lst []))) ∧ ∀ k m H, W k m H →
  ((Itr i (j - i).toNat).stop k H ∧ Qd D H) ∨ ((Itr i (j - i).toNat).go k H ∧ ∃ Nx : Hp → Prop, (∀ H', Nx H' → ∃ m', m' < m ∧ W (k + 1) m' H') ∧ ∀ x H', (Itr i (j - i).toNat).yld k H x H' → g x (wipe σ vs) H' fun σ2 H2 => wipe σ2 vs = wipe σ vs ∧ tt σ2 H2 fun b H3 =>
    if b = true then te σ2 H3 fun y H4 => ∃ acc, H4 D = some (.lst acc) ∧ acc.length < sizeLine ∧ Nx (upd H4 D (.lst (acc ++ [y]))) else Nx H3) := by
  subst hx hy
  refine ⟨_, _, rfl, by omega, fun D hD => ?_⟩
  rw [show (((a + n : Nat) : Int) - ((a : Nat) : Int)).toNat = n by omega]
  refine lc_range (lo := ((a : Nat) : Int)) (Pv D) (h0 D hD) (fun i H hi p => ?_) fun H p => hd D H hD p
  have z := hs D i H hD hi p
  rw [show ((a : Nat) : Int) + ((i : Nat) : Int) = ((a + i : Nat) : Int) by omega]
  exact z
end Dk
namespace K63
open PySem PySem.Spec PyProof.Rows L2 Dk Q61 Wd M63
/-- one step of a reading -/
local macro_rules | `(tactic| walk_at "rd1") => `(tactic| first
  | ((with_reducible refine r_var (v := ?rv) ?rh ?_); (case rh => rfl))
  | with_reducible refine r_c ?_
  | with_reducible refine r_seq ?_
  | with_reducible refine r_asg ?_
  | with_reducible refine r_par ?_
  | with_reducible refine r_gname ?_
  | with_reducible refine r_op ?_
  | with_reducible refine r_forLo ?_
  | with_reducible refine r_forTo ?_
  | with_reducible refine r_forSo ?_
  | with_reducible refine r_forRo ?_
  | with_reducible refine r_forRvo ?_
  | with_reducible refine r_forZo ?_
  | with_reducible refine r_revS ?_
  | with_reducible refine r_lcRo ?_
  | with_reducible refine r_lcLo ?_
  | with_reducible refine r_yes ?_
  | with_reducible refine r_callK0 ?_
  | with_reducible refine r_break ?_
  | with_reducible refine r_continue ?_
  | with_reducible refine r_forR2o ?_
  | with_reducible refine r_forEo ?_
  | with_reducible refine r_forESo ?_
  | with_reducible refine r_xfo ?_
  | with_reducible refine r_noP ?_
  | with_reducible refine r_part ?_
  | with_reducible refine r_pI ?_
  | with_reducible refine r_gcons ?_
  | with_reducible refine r_gnil ?_
  | with_reducible refine r_mkO ?_
  | with_reducible refine r_un ?_
  | with_reducible refine r_addI ?_
  | with_reducible refine r_I0 ?_
  | with_reducible refine r_U ?_
  | with_reducible refine r_cons ?_
  | with_reducible refine r_nil ?_
  | with_reducible refine r_CB ?_
  | with_reducible refine r_call ?_
  | with_reducible refine r_callS ?_
  | with_reducible refine r_int ?_
  | with_reducible refine r_max ?_
  | with_reducible refine r_min ?_
  | with_reducible refine r_test ?_
  | with_reducible refine r_B ?_
  | with_reducible refine r_blv ?_
  | with_reducible refine r_and ?_
  | with_reducible refine r_or ?_
  | with_reducible refine r_not ?_
  | with_reducible refine r_andV ?_
  | with_reducible refine r_orV ?_
  | with_reducible refine r_notV ?_
  | with_reducible refine r_ifE ?_
  | with_reducible refine r_ifS ?_
  | with_reducible refine r_ret ?_
  | with_reducible refine r_retN ?_
  | with_reducible refine r_drop ?_
  | with_reducible refine r_next ?_
  | with_reducible refine r_sl ?_
  | with_reducible refine r_gsub ?_
  | with_reducible refine r_bm ?_
  | with_reducible refine r_bm0 ?_
  | with_reducible refine r_tup ?_
  | with_reducible refine r_lst ?_
  | with_reducible refine r_isN ?_
  | with_reducible refine r_notN ?_
  | with_reducible refine r_chain ?_
  | with_reducible refine r_callK ?_
  | with_reducible refine r_isB ?_
  | with_reducible refine r_lcEio ?_
  | with_reducible refine r_forEi ?_
  | with_reducible refine r_lcTo ?_
  | with_reducible refine r_lcSo ?_
  | with_reducible refine r_m1 ?_
  | with_reducible refine r_dget ?_
  | with_reducible refine r_din ?_
  | with_reducible refine r_dnotin ?_
  | with_reducible refine Tc.r_inC ?_
  | with_reducible refine Tc.r_getC ?_
  | with_reducible refine r_starC ?_
  | with_reducible refine r_callKS ?_
  | with_reducible refine Dk.r_fld ?_
  | with_reducible refine Dk.r_forNo ?_
  | with_reducible refine Dk.r_lcR2o ?_
  | with_reducible refine Dk.r_dcE ?_
  | with_reducible refine Dk.r_gsliT ?_
  | with_reducible refine Dk.r_dcTo ?_
  | with_reducible refine Dk.r_sfld ?_
  | with_reducible refine Dk.r_meth ?_
  | with_reducible refine Dk.r_methK ?_
  | with_reducible refine Dk.r_methT ?_
  | with_reducible refine Dk.r_makeK ?_
  | with_reducible refine r_itt ?_
  | with_reducible refine r_iff ?_
  | with_reducible refine r_ittN ?_
  | with_reducible refine r_iffN ?_
  | ((with_reducible refine r_ittD ?rh ?_); (case rh => rfl))
  | ((with_reducible refine r_iffD ?rh ?_); (case rh => rfl))
  | ((with_reducible refine r_modP ?rh ?_); (case rh => decide))
  | ((with_reducible refine r_eq ?rh ?_); (case rh => rfl))
  | ((with_reducible refine r_eqP ?rh ?_); (case rh => rfl))
  | ((with_reducible refine r_ne ?rh ?_); (case rh => rfl)))
local macro_rules | `(tactic| walk_at "rd") => `(tactic| repeat walk_at "rd1")
local macro_rules | `(tactic| walk_at "isi") => `(tactic| first | refine r_isi (b := true) (by assumption) (by decide +kernel) ?_ | refine r_isi (b := false) (by assumption) (by decide +kernel) ?_)
local macro_rules | `(tactic| walk_at "rs1") => `(tactic| first
  | with_reducible refine r_seq ?_
  | with_reducible refine r_asg ?_
  | with_reducible refine r_gname ?_
  | with_reducible refine r_ret ?_)
local macro_rules | `(tactic| walk_at "rs") => `(tactic| repeat walk_at "rs1")

def spTiles (C : Addr) (K : PySem.W.Frag) : Sp := fun vs H Q _ => ∃ (L : Addr) (z : Str) (n : Nat) (b : Bool) (i : Nat), vs = [.ref L, .int (i : Nat)] ∧ Tlr K H C L z n b ∧ z.length ≤ 100 ∧ OkZ z ∧ 2 ≤ n ∧ n ≤ 100 ∧ ∀ v r H', Ex H H' → RwV K H' v r → r.length = n → Q v H'
theorem r_sigS {t : TS} {σ σ' : L2.St} {H : Hp} {D : Ends} (h : σ = σ') (k : t D σ' H) : t D σ H := h ▸ k
theorem p2_rep {α : Type} {R : V → α → Prop} {v : V} {x : α} (h : R v x) : ∀ n, P2 R (List.replicate n [v]).flatten (List.replicate n x)
  | 0 => .nil
  | n + 1 => .cons h (p2_rep h n)
theorem rep_snoc {α : Type} {x : α} {n : Nat} : List.replicate n x ++ [x] = List.replicate (n + 1) x := by rw [List.replicate_succ']
theorem rep_at {x : V} {n k : Nat} (h : k < n) : atI (List.replicate n x) (k : Nat) = some x := atI_nat (by rw [List.getElem?_replicate, if_pos h])
section
variable {P : Program} {w : World} {K : PySem.W.Frag} {mg : Str → Option Value} {base : Heap}
theorem ok_Tiler_tiles (T : Txt K mg) : FnOk P w K mg base CX0 4 T.a_Tiler_tiles T.d_Tiler_tiles ["self", "index"] (spTiles T.c_Tiler K) := by
  refine T.F_Tiler_tiles.ok sc_Tiler_tiles (fun vs H Q E h => ?_) (fun cdv A outer s H vs Q E hr h => ?_)
  · obtain ⟨L, z, n, b, i, rfl, _⟩ := h
    rfl
  · obtain ⟨L, z, n, b, i, rfl, tlr, zl, zo, n0, n1, q⟩ := h
    obtain ⟨dx, rv, hv, lv, sv, hd, hL, hD⟩ := id tlr
    refine ⟨_, (pss_cons (ps_if (pt_cmpR op_ge (pv 1) (pe_callB call_lenU (by rfl) T.n_len (by decide +kernel) (pa_cons (pe_fld (pv 0) rfl) pa_nil)) (nomark _)) (pss_one (ps_ret (pe_op op_repT (pe_tup (pa_cons (pe_glob (v := .ref T.a_EMPTY_TILE) rfl T.g_EMPTY_TILE rfl) pa_nil)) (pe_fld (pv 0) rfl)))) pss_nil)
        (pss_cons (ps_asg (pe_ix ix_seq (pe_fld (pv 0) rfl) (pv 1) (fun _ _ => rfl)) (pg_tup rfl (pgs_cons (pg_name (i := 2) sc_Tiler_tiles.nd rfl (Or.inl rfl)) (pgs_cons (pg_name (i := 3) sc_Tiler_tiles.nd rfl (Or.inl rfl)) (pgs_cons (pg_name (i := 4) sc_Tiler_tiles.nd rfl (Or.inl rfl)) pgs_nil)))))
        (pss_cons (ps_set (i := 5) sc_Tiler_tiles.nd rfl (Or.inl rfl) (pe_op op_sub (pe_fld (pv 0) rfl) (pe_op op_sub (pv 4) (pv 3))))
        (pss_cons (ps_set (i := 6) sc_Tiler_tiles.nd rfl (Or.inr rfl) (pe_op op_addU (pe_slice sl_U (pe_ix ix_seq (pe_fld (pv 0) rfl) (pv 2) (fun _ _ => rfl)) (po_some (pv 3)) (po_some (pv 4))) (pe_op op_repS pe_str (pv 5))))
        (pss_cons (ps_set (i := 7) sc_Tiler_tiles.nd rfl (Or.inr rfl) (pe_op op_addU (pe_meth (pv 0) T.k_Tiler T.m_Tiler_colours_of (ok_Tiler_colours_of T) (hr.mono (by decide)) T.b_Tiler_colours_of .nil pass0 (pa_cons (pv 2) (pa_cons (pv 3) (pa_cons (pv 4) pa_nil)))) (pe_op op_rep (pe_lst (pa_cons pe_int pa_nil)) (pv 5))))
        (pss_cons (ps_set (i := 8) sc_Tiler_tiles.nd rfl (Or.inl rfl) (pe_op op_addU (pe_ix ix_seq (pe_call (ok_row_bounds T) hr (by rfl) T.g_row_bounds T.F_row_bounds.kp T.b_row_bounds .nil pass0 (pa_cons (pe_fld (pv 0) rfl) (pa_cons (pv 2) pa_nil))) pe_int (fun _ _ => rfl)) (pv 3)))
        (pss_cons (ps_set (i := 9) sc_Tiler_tiles.nd rfl (Or.inr rfl) (pe_op op_addU (pe_call (ok_selected_flags T) (hr.mono (by decide)) (by rfl) T.g_selected_flags T.F_selected_flags.kp T.b_selected_flags .nil pass0 (pa_cons (pv 8) (pa_cons (pe_op op_sub (pv 4) (pv 3)) (pa_cons (pe_fld (pv 0) rfl) pa_nil)))) (pe_op op_rep (pe_lst (pa_cons pe_int pa_nil)) (pv 5))))
        (pss_cons (ps_set (i := 10) sc_Tiler_tiles.nd rfl (Or.inr rfl) (pe_ifExp (pt_val (pe_meth (pv 0) T.k_Tiler T.m_Tiler_is_above_fold (ok_Tiler_is_above_fold T) (hr.mono (by decide)) T.b_Tiler_is_above_fold .nil pass0 (pa_cons (pv 1) pa_nil))) (pe_glob (v := .int 4) rfl T.g_FOLD_BELOW ⟨_, rfl⟩) pe_int))
        (pss_cons (ps_set (i := 11) sc_Tiler_tiles.nd rfl (Or.inr rfl) (pe_lc (own := [("tile", 12)]) (g := gName 12) rfl sc_Tiler_tiles.nd (pi_range1 (by rfl) T.n_range (pa_cons (pe_fld (pv 0) rfl) pa_nil)) (blkOk_by (N := N_Tiler_tiles) (sc := defScope s_Tiler_tiles) (by decide +kernel)) (fun _ _ _ _ _ => pg_name (i := 12) sc_Tiler_tiles.nd rfl (Or.inl rfl)) (fun _ _ _ _ _ => pts_nil) (fun _ _ _ _ _ => (pe_ifExp (pt_cmp (pc_din (Nat.lt_of_le_of_lt (Nat.add_le_add_left (by decide : 1 ≤ 65) _) hr.units65) (pe_tup (pa_cons (pv 1) (pa_cons (pv 12) pa_nil))) (Dk.pe_fldK (K := K) rfl (pv 0) rfl))) (pe_glob (v := .int 2) rfl T.g_HEAD_HERE ⟨_, rfl⟩) pe_int))))
        (pss_one (ps_ret (pe_callTy call_tupU (by rfl) T.n_tuple (by decide +kernel) (pa_cons (pe_lc (own := [("at", 13)]) (g := gName 13) rfl sc_Tiler_tiles.nd (pi_range1 (by rfl) T.n_range (pa_cons (pe_fld (pv 0) rfl) pa_nil)) (blkOk_by (N := N_Tiler_tiles) (sc := defScope s_Tiler_tiles) (by decide +kernel)) (fun _ _ _ _ _ => pg_name (i := 13) sc_Tiler_tiles.nd rfl (Or.inl rfl)) (fun _ _ _ _ _ => pts_nil) (fun _ _ _ _ _ => (pe_tup (pa_cons (pe_ix (k_ix (K := K) rfl) (pv 6) (pv 13) (fun _ _ => rfl)) (pa_cons (pe_ix (k_ix (K := K) rfl) (pv 7) (pv 13) (fun _ _ => rfl)) (pa_cons (pe_op (k_add (K := K) rfl) (pe_op (k_add (K := K) rfl) (pe_ix (k_ix (K := K) rfl) (pv 9) (pv 13) (fun _ _ => rfl)) (pe_ix (k_ix (K := K) rfl) (pv 11) (pv 13) (fun _ _ => rfl))) (pv 10)) pa_nil)))))) pa_nil))))))))))))), ?_⟩
    refine r_sigS (σ' := [some (.ref L), some (.int (i : Nat)), none, none, none, none, none, none, none, none, none, none, none, none]) rfl ?_
    walk_at "rd"
    refine ⟨_, _, _, _, _, rfl, hL, T.k_Tiler, T.na_Tiler_laid_rows, rfl, ?_⟩
    walk_at "rd"
    refine r_lenTV hD.l ?_
    walk_at "rd"
    refine r_ite (fun c => ?_) (fun c => ?_)
    · walk_at "rd"
      refine r_small nsz fun p1 hp1 => ?_
      obtain ⟨H1, k1, e1, h1⟩ := new1 hp1 (.tup [V.ref T.a_EMPTY_TILE])
      rw [← k1]
      walk_at "rd"
      refine ⟨_, _, _, _, _, rfl, e1 _ _ hL, T.k_Tiler, T.na_Tiler_width, rfl, ?_⟩
      walk_at "rd"
      refine ⟨p1, (n : Nat), _, rfl, rfl, sqT h1, by simp, by omega, by omega, by show 1 ≤ 1000; decide, fun p2 hp2 => ?_⟩
      rw [Int.toNat_natCast]
      obtain ⟨H2, k2, e2, h2⟩ := new1 hp2 (.tup (List.replicate n [V.ref T.a_EMPTY_TILE]).flatten)
      rw [← k2]
      walk_at "rd"
      refine q _ (List.replicate n ((" " : Str), (0 : Int), (0 : Int))) _ (e1.trans e2) ⟨p2, _, rfl, .inl h2, p2_rep ?_ n⟩ (List.length_replicate ..)
      exact ⟨by show 1 ≤ 1000; decide, okz_one (c := 32) (by decide), _, rfl, .inr T.u_EMPTY_TILE⟩
    · have il : i < (srw n b z).length := by omega
      obtain ⟨x, hx⟩ : ∃ x, (srw n b z)[i]? = some x := ⟨_, List.getElem?_eq_getElem il⟩
      obtain ⟨r, hr1, se, er, en⟩ := srw_mem (by omega) hx
      have rm := List.mem_of_getElem? hr1
      have rz := row_short rm
      have ro := row_ok zo rm
      obtain ⟨l, s, e⟩ := x
      dsimp only at hr1 se er en
      walk_at "rd"
      refine ⟨_, _, _, _, _, rfl, hL, T.k_Tiler, T.na_Tiler_laid_rows, rfl, ?_⟩
      walk_at "rd"
      refine r_ixTV hD.l hx fun u hu => ?_
      obtain ⟨p, rfl, hp⟩ := hu
      walk_at "rd"
      refine r_gtup hp.sq rfl ?_
      walk_at "rd"
      refine ⟨_, _, _, _, _, rfl, hL, T.k_Tiler, T.na_Tiler_width, rfl, ?_⟩
      walk_at "rd"
      dsimp only [List.set]
      obtain ⟨rest, hrest⟩ : ∃ rest : Nat, rest = n - (e - s) := ⟨_, rfl⟩
      have hre : ((n : Nat) : Int) - (((e : Nat) : Int) - ((s : Nat) : Int)) = ((rest : Nat) : Int) := by omega
      have hes : ((e : Nat) : Int) - ((s : Nat) : Int) = ((e - s : Nat) : Int) := by omega
      rw [hre]
      refine ⟨_, _, _, _, _, rfl, hL, T.k_Tiler, T.na_Tiler_rows, rfl, ?_⟩
      walk_at "rd"
      refine r_ixTV hD.r hr1 fun u hu => ?_
      cases hu
      walk_at "rd"
      refine r_slS (by rw [sizeLine_eq]; omega) ?_
      walk_at "rd"
      refine r_repS (by show 1 ≤ 100; decide) (by omega) ?_
      have l1 : (cutS r (some ((s : Nat) : Int)) (some ((e : Nat) : Int))).length = e - s := by
        rw [← cs_len, cs_cut, List.length_take, List.length_drop, cs_len]
        omega
      have l2 : (Txt.mul (" " : Str) rest).length = rest := by
        rw [← cs_len, cs_mul, List.length_flatten, List.map_replicate]
        show (List.replicate rest 1).sum = rest
        simp
      walk_at "rd"
      refine r_addS (by rw [l1, l2, sizeLine_eq]; omega) ?_
      obtain ⟨sg, hsg⟩ : ∃ sg, sg = cutS r (some ((s : Nat) : Int)) (some ((e : Nat) : Int)) ++ Txt.mul (" " : Str) rest := ⟨_, rfl⟩
      have sl : sg.length = n := by rw [hsg, app_len, l1, l2]; omega
      have so : OkZ sg := fun c hc => by
        rw [hsg, cs_app] at hc
        rcases List.mem_append.mp hc with h | h
        · rw [cs_cut] at h
          exact ro c (List.mem_of_mem_drop (List.mem_of_mem_take h))
        · rw [cs_mul] at h
          obtain ⟨y, hy, h⟩ := List.mem_flatten.mp h
          rw [(List.mem_replicate.mp hy).2] at h
          exact okz_one (c := 32) (by decide) c h
      rw [← hsg]
      walk_at "rd"
      refine ⟨L, dx, _, rfl, hL, noT (by decide), ?_⟩
      walk_at "rd"
      refine ⟨L, z, n, b, _, s, e, rfl, tlr, se, by omega, fun c1 H1 e1 h1 => ?_⟩
      walk_at "rd"
      refine r_small nsz fun c2 hc2 => ?_
      obtain ⟨H2, k2, e2, h2⟩ := new1 hc2 (.lst [V.int 0])
      rw [← k2]
      walk_at "rd"
      refine r_repL h2 (by omega) fun c3 hc3 => ?_
      obtain ⟨H3, k3, e3, h3⟩ := new1 hc3 (.lst (List.replicate rest (V.int 0)))
      rw [← k3]
      walk_at "rd"
      refine r_addL (e3 _ _ (e2 _ _ h1)) h3 (by rw [List.length_replicate, List.length_replicate, sizeLine_eq]; omega) fun cl hcl => ?_
      rw [List.replicate_append_replicate, show e - s + rest = n by omega]
      obtain ⟨H4, k4, e4, h4⟩ := new1 hcl (.lst (List.replicate n (V.int 0)))
      rw [← k4]
      have eA := ((e1.trans e2).trans e3).trans e4
      walk_at "rd"
      refine ⟨_, _, _, _, _, rfl, eA _ _ hL, T.k_Tiler, T.na_Tiler_letters, rfl, ?_⟩
      walk_at "rd"
      refine ⟨z, l, rfl, by omega, (List.getElem?_eq_some_iff.mp hr1).1, fun pb ba bb H5 e5 hpb => ?_⟩
      walk_at "rd"
      refine r_ixT hpb.sq (atI_nat (j := 0) rfl) ?_
      walk_at "rd"
      have eB := eA.trans e5
      refine ⟨_, _, _, _, _, rfl, eB _ _ hL, T.k_Tiler, T.na_Tiler_stretches, rfl, ?_⟩
      walk_at "rd"
      rw [hes]
      refine ⟨_, e - s, sv, rfl, by omega, (hD.up eB).s, fun f1 H6 e6 h6 => ?_⟩
      walk_at "rd"
      refine r_small nsz fun f2 hf2 => ?_
      obtain ⟨H7, k7, e7, h7⟩ := new1 hf2 (.lst [V.int 0])
      rw [← k7]
      walk_at "rd"
      refine r_repL h7 (by omega) fun f3 hf3 => ?_
      obtain ⟨H8, k8, e8, h8⟩ := new1 hf3 (.lst (List.replicate rest (V.int 0)))
      rw [← k8]
      walk_at "rd"
      refine r_addL (e8 _ _ (e7 _ _ h6)) h8 (by rw [List.length_replicate, List.length_replicate, sizeLine_eq]; omega) fun fl hfl => ?_
      rw [List.replicate_append_replicate, show e - s + rest = n by omega]
      obtain ⟨H9, k9, e9, h9⟩ := new1 hfl (.lst (List.replicate n (V.int 0)))
      rw [← k9]
      have eC := eB.trans (((e6.trans e7).trans e8).trans e9)
      walk_at "rd"
      refine ⟨L, dx, _, rfl, eC _ _ hL, noT (by decide), ?_⟩
      walk_at "rd"
      refine ⟨L, z, n, b, i, _, rfl, tlr.up eC, zl, by omega, hx, fun fc H10 e10 => ?_⟩
      have eD := eC.trans e10
      have h4' := (((((e5.trans e6).trans e7).trans e8).trans e9).trans e10) _ _ h4
      have h9' := e10 _ _ h9
      dsimp only [List.set]
      cases fc
      · walk_at "rd"
        refine ⟨_, _, _, _, _, rfl, eD _ _ hL, T.k_Tiler, T.na_Tiler_width, rfl, ?_⟩
        walk_at "rd"
        refine l_lcR (by omega) (by omega) (fun D k H11 => Ex H10 H11 ∧ H11 D = some (.lst (List.replicate k (V.int 0)))) (fun D hD => ⟨Same.new (Same.refl _) hD, upd_same⟩) (fun D k H11 hD2 hk hP => ?_) (fun D H11 hD2 hP => ?_)
        · obtain ⟨e11, g11⟩ := hP
          walk_at "rd"
          dsimp only [wipe, List.set]
          refine ⟨rfl, ?_⟩
          walk_at "rd"
          refine r_small nsz fun kp hkp => ?_
          obtain ⟨H12, k12, e12, h12⟩ := new1 hkp (.tup [V.int (i : Nat), V.int (k : Nat)])
          rw [← k12]
          walk_at "rd"
          have eE := (eD.trans e11).trans e12
          refine ⟨_, _, _, _, _, rfl, eE _ _ hL, T.k_Tiler, T.na_Tiler_heads, rfl, ?_⟩
          walk_at "rd"
          refine ⟨hd, none, rfl, DGet.t (k := [Sum.inl (i : Int), Sum.inl (k : Int)]) (eE _ _ hD.d) h12, ?_⟩
          walk_at "rd"
          refine ⟨_, e12 _ _ g11, by rw [List.length_replicate, sizeLine_eq]; omega, Same.mut (e11.trans e12) hD2, ?_⟩
          rw [upd_same, rep_snoc]
        · obtain ⟨e11, g11⟩ := hP
          rw [Int.toNat_natCast] at g11
          have eE := eD.trans e11
          have h4'' := e11 _ _ h4'
          have h9'' := e11 _ _ h9'
          walk_at "rd"
          dsimp only [List.set]
          refine ⟨_, _, _, _, _, rfl, eE _ _ hL, T.k_Tiler, T.na_Tiler_width, rfl, ?_⟩
          walk_at "rd"
          refine l_lcR (by omega) (by omega) (fun D2 k H12 => Ex H11 H12 ∧ ∃ xs ts, H12 D2 = some (.lst xs) ∧ P2 (TlV K H12) xs ts ∧ ts.length = k) (fun D2 hD2 => ⟨Same.new (Same.refl _) hD2, [], [], upd_same, .nil, rfl⟩) (fun D2 k H12 hD2 hk hP => ?_) (fun D2 H12 hD2 hP => ?_)
          · obtain ⟨e12, xs, ts, g12, hxs, tsl⟩ := hP
            have kn : k < n := by omega
            walk_at "rd"
            refine ⟨rfl, ?_⟩
            walk_at "rd"
            have hkc : k < (cs sg).length := by rw [cs_len]; omega
            have hc := List.getElem?_eq_getElem hkc
            refine r_ixS (by rw [sl, sizeLine_eq]; omega) (atI_nat hc) ?_
            walk_at "rd"
            refine r_ixL (sqL (e12 _ _ h4'')) (rep_at kn) ?_
            walk_at "rd"
            refine r_ixL (sqL (e12 _ _ h9'')) (rep_at kn) ?_
            walk_at "rd"
            refine r_ixL (sqL (e12 _ _ g11)) (rep_at kn) ?_
            walk_at "rd"
            refine r_small nsz fun tp htp => ?_
            obtain ⟨H13, k13, e13, h13⟩ := new1 htp (.tup [V.str ⟨#[(cs sg)[k]]⟩, V.int 0, V.int (0 + 0 + 0)])
            rw [← k13]
            have g13 := e13 _ _ g12
            have tc := Tk.put (o := .lst (xs ++ [V.ref tp])) g13
            refine ⟨xs, g13, by rw [hxs.len, tsl, sizeLine_eq]; omega, Same.mut (e12.trans e13) hD2, _, ts ++ [((⟨#[(cs sg)[k]]⟩ : Str), (0 : Int), (0 + 0 + 0 : Int))], upd_same, (p2_imm tc (p2_imm (.ex e13) hxs)).snoc (imm (R := TlV K) tc (tl_of (so _ (List.getElem_mem hkc)) h13)), by rw [List.length_append, tsl]; rfl⟩
          · obtain ⟨e12, xs, ts, g12, hxs, tsl⟩ := hP
            rw [Int.toNat_natCast] at tsl
            walk_at "rd"
            refine r_tupLV g12 hxs fun p6 H13 hp6 e6' hT => ?_
            exact q _ ts _ ((eE.trans e12).trans e6') hT tsl
      · walk_at "rd"
        refine ⟨_, _, _, _, _, rfl, eD _ _ hL, T.k_Tiler, T.na_Tiler_width, rfl, ?_⟩
        walk_at "rd"
        refine l_lcR (by omega) (by omega) (fun D k H11 => Ex H10 H11 ∧ H11 D = some (.lst (List.replicate k (V.int 0)))) (fun D hD => ⟨Same.new (Same.refl _) hD, upd_same⟩) (fun D k H11 hD2 hk hP => ?_) (fun D H11 hD2 hP => ?_)
        · obtain ⟨e11, g11⟩ := hP
          walk_at "rd"
          dsimp only [wipe, List.set]
          refine ⟨rfl, ?_⟩
          walk_at "rd"
          refine r_small nsz fun kp hkp => ?_
          obtain ⟨H12, k12, e12, h12⟩ := new1 hkp (.tup [V.int (i : Nat), V.int (k : Nat)])
          rw [← k12]
          walk_at "rd"
          have eE := (eD.trans e11).trans e12
          refine ⟨_, _, _, _, _, rfl, eE _ _ hL, T.k_Tiler, T.na_Tiler_heads, rfl, ?_⟩
          walk_at "rd"
          refine ⟨hd, none, rfl, DGet.t (k := [Sum.inl (i : Int), Sum.inl (k : Int)]) (eE _ _ hD.d) h12, ?_⟩
          walk_at "rd"
          refine ⟨_, e12 _ _ g11, by rw [List.length_replicate, sizeLine_eq]; omega, Same.mut (e11.trans e12) hD2, ?_⟩
          rw [upd_same, rep_snoc]
        · obtain ⟨e11, g11⟩ := hP
          rw [Int.toNat_natCast] at g11
          have eE := eD.trans e11
          have h4'' := e11 _ _ h4'
          have h9'' := e11 _ _ h9'
          walk_at "rd"
          dsimp only [List.set]
          refine ⟨_, _, _, _, _, rfl, eE _ _ hL, T.k_Tiler, T.na_Tiler_width, rfl, ?_⟩
          walk_at "rd"
          refine l_lcR (by omega) (by omega) (fun D2 k H12 => Ex H11 H12 ∧ ∃ xs ts, H12 D2 = some (.lst xs) ∧ P2 (TlV K H12) xs ts ∧ ts.length = k) (fun D2 hD2 => ⟨Same.new (Same.refl _) hD2, [], [], upd_same, .nil, rfl⟩) (fun D2 k H12 hD2 hk hP => ?_) (fun D2 H12 hD2 hP => ?_)
          · obtain ⟨e12, xs, ts, g12, hxs, tsl⟩ := hP
            have kn : k < n := by omega
            walk_at "rd"
            refine ⟨rfl, ?_⟩
            walk_at "rd"
            have hkc : k < (cs sg).length := by rw [cs_len]; omega
            have hc := List.getElem?_eq_getElem hkc
            refine r_ixS (by rw [sl, sizeLine_eq]; omega) (atI_nat hc) ?_
            walk_at "rd"
            refine r_ixL (sqL (e12 _ _ h4'')) (rep_at kn) ?_
            walk_at "rd"
            refine r_ixL (sqL (e12 _ _ h9'')) (rep_at kn) ?_
            walk_at "rd"
            refine r_ixL (sqL (e12 _ _ g11)) (rep_at kn) ?_
            walk_at "rd"
            refine r_small nsz fun tp htp => ?_
            obtain ⟨H13, k13, e13, h13⟩ := new1 htp (.tup [V.str ⟨#[(cs sg)[k]]⟩, V.int 0, V.int (0 + 0 + 4)])
            rw [← k13]
            have g13 := e13 _ _ g12
            have tc := Tk.put (o := .lst (xs ++ [V.ref tp])) g13
            refine ⟨xs, g13, by rw [hxs.len, tsl, sizeLine_eq]; omega, Same.mut (e12.trans e13) hD2, _, ts ++ [((⟨#[(cs sg)[k]]⟩ : Str), (0 : Int), (0 + 0 + 4 : Int))], upd_same, (p2_imm tc (p2_imm (.ex e13) hxs)).snoc (imm (R := TlV K) tc (tl_of (so _ (List.getElem_mem hkc)) h13)), by rw [List.length_append, tsl]; rfl⟩
          · obtain ⟨e12, xs, ts, g12, hxs, tsl⟩ := hP
            rw [Int.toNat_natCast] at tsl
            walk_at "rd"
            refine r_tupLV g12 hxs fun p6 H13 hp6 e6' hT => ?_
            exact q _ ts _ ((eE.trans e12).trans e6') hT tsl
end
end K63

set_option maxHeartbeats 1000000
namespace K63
open PySem PySem.Spec PyProof.Rows L2 Dk Q61 Wd M63
/-- one step of a reading -/
local macro_rules | `(tactic| walk_at "rd1") => `(tactic| first
  | ((with_reducible refine r_var (v := ?rv) ?rh ?_); (case rh => rfl))
  | with_reducible refine r_c ?_
  | with_reducible refine r_seq ?_
  | with_reducible refine r_asg ?_
  | with_reducible refine r_par ?_
  | with_reducible refine r_gname ?_
  | with_reducible refine r_op ?_
  | with_reducible refine r_forLo ?_
  | with_reducible refine r_forTo ?_
  | with_reducible refine r_forSo ?_
  | with_reducible refine r_forRo ?_
  | with_reducible refine r_forRvo ?_
  | with_reducible refine r_forZo ?_
  | with_reducible refine r_revS ?_
  | with_reducible refine r_lcRo ?_
  | with_reducible refine r_lcLo ?_
  | with_reducible refine r_yes ?_
  | with_reducible refine r_callK0 ?_
  | with_reducible refine r_break ?_
  | with_reducible refine r_continue ?_
  | with_reducible refine r_forR2o ?_
  | with_reducible refine r_forEo ?_
  | with_reducible refine r_forESo ?_
  | with_reducible refine r_xfo ?_
  | with_reducible refine r_noP ?_
  | with_reducible refine r_part ?_
  | with_reducible refine r_pI ?_
  | with_reducible refine r_gcons ?_
  | with_reducible refine r_gnil ?_
  | with_reducible refine r_mkO ?_
  | with_reducible refine r_un ?_
  | with_reducible refine r_addI ?_
  | with_reducible refine r_I0 ?_
  | with_reducible refine r_U ?_
  | with_reducible refine r_cons ?_
  | with_reducible refine r_nil ?_
  | with_reducible refine r_CB ?_
  | with_reducible refine r_call ?_
  | with_reducible refine r_callS ?_
  | with_reducible refine r_int ?_
  | with_reducible refine r_max ?_
  | with_reducible refine r_min ?_
  | with_reducible refine r_test ?_
  | with_reducible refine r_B ?_
  | with_reducible refine r_blv ?_
  | with_reducible refine r_and ?_
  | with_reducible refine r_or ?_
  | with_reducible refine r_not ?_
  | with_reducible refine r_andV ?_
  | with_reducible refine r_orV ?_
  | with_reducible refine r_notV ?_
  | with_reducible refine r_ifE ?_
  | with_reducible refine r_ifS ?_
  | with_reducible refine r_ret ?_
  | with_reducible refine r_retN ?_
  | with_reducible refine r_drop ?_
  | with_reducible refine r_next ?_
  | with_reducible refine r_sl ?_
  | with_reducible refine r_gsub ?_
  | with_reducible refine r_bm ?_
  | with_reducible refine r_bm0 ?_
  | with_reducible refine r_tup ?_
  | with_reducible refine r_lst ?_
  | with_reducible refine r_isN ?_
  | with_reducible refine r_notN ?_
  | with_reducible refine r_chain ?_
  | with_reducible refine r_callK ?_
  | with_reducible refine r_isB ?_
  | with_reducible refine r_lcEio ?_
  | with_reducible refine r_forEi ?_
  | with_reducible refine r_lcTo ?_
  | with_reducible refine r_lcSo ?_
  | with_reducible refine r_m1 ?_
  | with_reducible refine r_dget ?_
  | with_reducible refine r_din ?_
  | with_reducible refine r_dnotin ?_
  | with_reducible refine Tc.r_inC ?_
  | with_reducible refine Tc.r_getC ?_
  | with_reducible refine r_starC ?_
  | with_reducible refine r_callKS ?_
  | with_reducible refine Dk.r_fld ?_
  | with_reducible refine Dk.r_forNo ?_
  | with_reducible refine Dk.r_lcR2o ?_
  | with_reducible refine Dk.r_dcE ?_
  | with_reducible refine Dk.r_gsliT ?_
  | with_reducible refine Dk.r_dcTo ?_
  | with_reducible refine Dk.r_sfld ?_
  | with_reducible refine Dk.r_meth ?_
  | with_reducible refine Dk.r_methK ?_
  | with_reducible refine Dk.r_methT ?_
  | with_reducible refine Dk.r_makeK ?_
  | with_reducible refine r_itt ?_
  | with_reducible refine r_iff ?_
  | with_reducible refine r_ittN ?_
  | with_reducible refine r_iffN ?_
  | ((with_reducible refine r_ittD ?rh ?_); (case rh => rfl))
  | ((with_reducible refine r_iffD ?rh ?_); (case rh => rfl))
  | ((with_reducible refine r_modP ?rh ?_); (case rh => decide))
  | ((with_reducible refine r_eq ?rh ?_); (case rh => rfl))
  | ((with_reducible refine r_eqP ?rh ?_); (case rh => rfl))
  | ((with_reducible refine r_ne ?rh ?_); (case rh => rfl)))
local macro_rules | `(tactic| walk_at "rd") => `(tactic| repeat walk_at "rd1")
local macro_rules | `(tactic| walk_at "isi") => `(tactic| first | refine r_isi (b := true) (by assumption) (by decide +kernel) ?_ | refine r_isi (b := false) (by assumption) (by decide +kernel) ?_)
local macro_rules | `(tactic| walk_at "rs1") => `(tactic| first
  | with_reducible refine r_seq ?_
  | with_reducible refine r_asg ?_
  | with_reducible refine r_gname ?_
  | with_reducible refine r_ret ?_)
local macro_rules | `(tactic| walk_at "rs") => `(tactic| repeat walk_at "rs1")

/-- a new object: what was stays -/
theorem mk_ex {H H1 : Hp} {x dx : Addr} {o1 o2 : HO} (hx : H x = none) (hdx : H dx = none) (off : Off (· = x) (upd (upd H dx o1) x o2) H1) : Ex H H1 := fun y o e => by
  have ny : y ≠ x := fun z => by rw [z, hx] at e; cases e
  refine off y o ny ?_
  rw [upd_ne ny, upd_ne (fun z => by rw [z, hdx] at e; cases e)]
  exact e
theorem mk_no {H : Hp} {x dx y : Addr} {o1 o2 : HO} (hx : H x = none) (hdx : H dx = none) (h : upd (upd H dx o1) x o2 y = none) : H y = none := by
  cases e : H y with
  | none => rfl
  | some o => rw [upd_ne (fun z => by rw [z, hx] at e; cases e), upd_ne (fun z => by rw [z, hdx] at e; cases e), e] at h; cases h
theorem mk_new {H : Hp} {x dx : Addr} {o1 o2 : HO} (hx : H x = none) (hdx : H dx = none) : Ex H (upd (upd H dx o1) x o2) := fun y o e => by
  rw [upd_ne (fun z => by rw [z, hx] at e; cases e), upd_ne (fun z => by rw [z, hdx] at e; cases e)]
  exact e
def spTiled (Cl : Addr) (K : PySem.W.Frag) : Sp := fun vs H Q _ => ∃ (z : Str) (h n : Nat) (b : Bool) (L dk ln pk fd : Addr) (kn : List Str), vs = [.str z, .int (h : Nat), .non, .ref L, .ref pk, .ref fd, .int 0] ∧ Lay K H Cl L dk ln n b kn (PySem.Txt.split z "\n") ∧ Tu K H pk [] ∧ Tu K H fd [] ∧
  z.length ≤ 100 ∧ OkZ z ∧ 2 ≤ n ∧ n ≤ 100 ∧ h ≤ 100 ∧ ∀ v A H', Ex H H' → ScV K H' v A → A.length = h → Wide n A → Q v H'
def spScreen (K : PySem.W.Frag) : Sp := fun vs H Q _ => ∃ (z : Str) (n h : Nat) (b : Bool) (pk fd : Addr), vs = [.str z, .int (n : Nat), .int (h : Nat), .bl b, .non, .ref pk, .ref fd, .int 0] ∧ Tu K H pk [] ∧ Tu K H fd [] ∧
  z.length ≤ 100 ∧ OkZ z ∧ 2 ≤ n ∧ n ≤ 100 ∧ h ≤ 100 ∧ ∀ v A H', Ex H H' → ScV K H' v A → A.length = h → Wide n A → Q v H'
section
variable {P : Program} {w : World} {K : PySem.W.Frag} {mg : Str → Option Value} {base : Heap}
theorem ok_tiled (T : Txt K mg) : FnOk P w K mg base CX0 7 T.a_tiled T.d_tiled ["text", "height", "tints", "layout", "picks", "folds", "top"] (spTiled T.c_Layout K) := by
  refine T.F_tiled.ok sc_tiled (fun vs H Q E h => ?_) (fun cdv A outer s H vs Q E hr h => ?_)
  · obtain ⟨z, h, n, b, L, dk, ln, pk, fd, kn, rfl, _⟩ := h
    rfl
  · obtain ⟨z, h, n, b, L, dk, ln, pk, fd, kn, rfl, lay, hpk, hfd, zl, zo, n0, n1, h1, q⟩ := h
    refine ⟨_, (pss_cons (ps_set (i := 7) sc_tiled.nd rfl (Or.inr rfl) (pe_makeK T.mk_Tiler (ok_Tiler_init T) hr (by rfl) T.g_Tiler T.kb_Tiler_init_0 pass0 (pa_cons (pv 0) (pa_cons (pv 2) (pa_cons (pv 3) (pa_cons (pv 4) (pa_cons (pe_call (ok_lines_hidden T) (hr.mono (by decide)) (by rfl) T.g_lines_hidden T.F_lines_hidden.kp T.b_lines_hidden .nil pass0 (pa_cons (pv 0) (pa_cons (pv 5) pa_nil))) pa_nil))))) pk_nil))
        (pss_cons (ps_set (i := 8) sc_tiled.nd rfl (Or.inl rfl) (pe_meth (pv 7) T.k_Tiler T.m_Tiler_index_at (ok_Tiler_index_at T) (hr.mono (by decide)) T.b_Tiler_index_at .nil pass0 (pa_cons (pv 6) pa_nil)))
        (pss_cons (ps_if (pt_cmpR op_gt (pe_callB call_lenU (by rfl) T.n_len (by decide +kernel) (pa_cons (pv 4) pa_nil)) pe_int (nomark _)) (pss_one (ps_set (i := 8) sc_tiled.nd rfl (Or.inl rfl) pe_never)) pss_nil)
        (pss_one (ps_ret (pe_callTy call_tupU (by rfl) T.n_tuple (by decide +kernel) (pa_cons (pe_lc (own := [("index", 9)]) (g := gName 9) rfl sc_tiled.nd (pi_range2 (by rfl) T.n_range (pa_cons (pv 8) (pa_cons (pe_op op_addU (pv 8) (pv 1)) pa_nil))) (blkOk_by (N := N_tiled) (sc := defScope s_tiled) (by decide +kernel)) (fun _ _ _ _ _ => pg_name (i := 9) sc_tiled.nd rfl (Or.inl rfl)) (fun _ _ _ _ _ => pts_nil) (fun _ _ _ _ _ => (pe_meth (pv 7) T.k_Tiler T.m_Tiler_tiles (ok_Tiler_tiles T) (hr.mono (by decide)) T.b_Tiler_tiles .nil pass0 (pa_cons (pv 9) pa_nil)))) pa_nil))))))), ?_⟩
    walk_at "rd"
    refine ⟨z, fd, rfl, hfd, fun hv H1 e1 hhv => ?_⟩
    walk_at "rd"
    refine ⟨rfl, rfl, fun x dx hx hdx nx => ?_⟩
    have e2 : Ex H1 (upd (upd H1 dx (.own x)) x (.ins T.c_Tiler dx [])) := mk_new hx hdx
    have lay1 := lay.ex e1
    have nL : L ≠ x := fun e => by
      obtain ⟨⟨dL, hL⟩, _, _⟩ := lay1
      rw [e, hx] at hL; cases hL
    refine ⟨x, dx, L, dk, ln, pk, z, n, b, kn, hv, rfl, upd_same, lay1.ex e2, nL, hpk.up (e1.trans e2), imm (R := TupV K IntV) (.ex e2) hhv, zl, by omega, fun H3 off tlr => ⟨rfl, ?_⟩⟩
    have e3 := mk_ex hx hdx off
    have e13 := e1.trans e3
    obtain ⟨dx', rv', hv', lv', sv', hd', hx', hD'⟩ := id tlr
    walk_at "rd"
    refine ⟨x, dx', _, rfl, hx', noT (by decide), ?_⟩
    walk_at "rd"
    refine ⟨x, z, n, b, rfl, tlr, zl, by omega, fun m H4 e4 ml => ?_⟩
    walk_at "rd"
    refine r_lenT (hpk.up (e13.trans e4)).sq ?_
    walk_at "rd"
    refine l_lcR2 (a := m) (n := h) rfl (by omega) (by omega) (fun D i H5 => Ex H4 H5 ∧ ∃ xs A, H5 D = some (.lst xs) ∧ P2 (RwV K H5) xs A ∧ A.length = i ∧ Wide n A) (fun D hD => ⟨Same.new (Same.refl _) hD, [], [], upd_same, .nil, rfl, fun r h => nomatch h⟩) (fun D i H5 hD hi hP => ?_) (fun D H5 hD hP => ?_)
    · obtain ⟨e5, xs, A, gD, hxs, al, wA⟩ := hP
      walk_at "rd"
      refine ⟨rfl, ?_⟩
      walk_at "rd"
      refine ⟨x, dx', _, rfl, e5 _ _ (e4 _ _ hx'), noT (by decide), ?_⟩
      walk_at "rd"
      refine ⟨x, z, n, b, m + i, rfl, tlr.up (e4.trans e5), zl, zo, n0, n1, fun v r H6 e6 hv2 rl => ?_⟩
      have g6 := e6 _ _ gD
      have tc := Tk.put (o := .lst (xs ++ [v])) g6
      refine ⟨xs, g6, by rw [hxs.len, al, sizeLine_eq]; omega, Same.mut (e5.trans e6) hD, _, A ++ [r], upd_same, (p2_imm tc (p2_imm (.ex e6) hxs)).snoc (imm (R := RwV K) tc hv2), by rw [List.length_append, al]; rfl, fun q hq => ?_⟩
      rcases List.mem_append.mp hq with g | g
      · exact wA q g
      · cases List.mem_singleton.mp g; exact rl
    · obtain ⟨e5, xs, A, gD, hxs, al, wA⟩ := hP
      walk_at "rd"
      refine r_tupLV gD hxs fun p6 H6 hp6 e6 hT => ?_
      exact q _ A _ (((e13.trans e4).trans e5).trans e6) hT al wA
theorem ok_screen_of (T : Txt K mg) : FnOk P w K mg base CX0 8 T.a_screen_of T.d_screen_of ["text", "width", "height", "wordwise", "book", "picks", "folds", "top"] (spScreen K) := by
  refine T.F_screen_of.ok sc_screen_of (fun vs H Q E h => ?_) (fun cdv A outer s H vs Q E hr h => ?_)
  · obtain ⟨z, n, h, b, pk, fd, rfl, _⟩ := h
    rfl
  · obtain ⟨z, n, h, b, pk, fd, rfl, hpk, hfd, zl, zo, n0, n1, h1, q⟩ := h
    refine ⟨_, (pss_cons (ps_set (i := 8) sc_screen_of.nd rfl (Or.inl rfl) (pe_call (ok_rows_of T) (hr.mono (by decide)) (by rfl) T.g_rows_of T.F_rows_of.kp T.b_rows_of .nil pass0 (pa_cons (pv 0) pa_nil)))
        (pss_cons (ps_set (i := 9) sc_screen_of.nd rfl (Or.inl rfl) (pe_makeK T.mk_Layout (ok_Layout_init T) (hr.mono (by decide)) (by rfl) T.g_Layout T.kb_Layout_init_0 pass0 (pa_cons (pv 1) pa_nil) (pk_cons (pv 3) pk_nil)))
        (pss_cons (ps_expr (pe_meth (pv 9) T.k_Layout T.m_Layout_refresh (ok_Layout_refresh T) (hr.mono (by decide)) T.b_Layout_refresh .nil pass0 (pa_cons (pv 8) pa_nil)))
        (pss_cons (ps_set (i := 10) sc_screen_of.nd rfl (Or.inl rfl) pe_non)
        (pss_cons (ps_if (pt_cmpR op_isnotU (pv 4) pe_non (nomark _)) (pss_cons (ps_set (i := 10) sc_screen_of.nd rfl (Or.inl rfl) pe_never)
        (pss_one (ps_expr pe_never))) pss_nil)
        (pss_one (ps_ret (pe_call (ok_tiled T) hr (by rfl) T.g_tiled T.F_tiled.kp T.b_tiled .nil pass0 (pa_cons (pv 0) (pa_cons (pv 2) (pa_cons (pv 10) (pa_cons (pv 9) (pa_cons (pv 5) (pa_cons (pv 6) (pa_cons (pv 7) pa_nil))))))))))))))), ?_⟩
    walk_at "rd"
    refine ⟨z, rfl, by omega, fun rv H1 e1 hrv => ?_⟩
    walk_at "rd"
    refine ⟨rfl, rfl, fun L dx hL hdx nx => ⟨L, dx, n, b, rfl, upd_same, fun dk ln H2 off hdk hln lay => ⟨rfl, ?_⟩⟩⟩
    have e2 := mk_ex hL hdx off
    have dk1 := mk_no hL hdx hdk
    obtain ⟨⟨dL, gL⟩, _, _⟩ := id lay
    have rl := rows_len z
    walk_at "rd"
    refine ⟨L, dL, _, rfl, gL, noF (by decide) (by decide) (by decide) (by decide), ?_⟩
    walk_at "rd"
    refine ⟨L, dk, ln, n, b, [], [], _, rv, rfl, lay, imm (R := TupV K StrV) (.ex e2) hrv, by omega, fun r hr => by have := row_short hr; omega, by decide, by omega, n1, fun u l2 H3 off3 hl2 lay3 hu => ?_⟩
    have e3 : Ex H1 H3 := fun y o e => off3 y o (fun z => by
      rcases z with z | z
      · rw [z, hL] at e; cases e
      · rw [z, dk1] at e; cases e) (e2 y o e)
    have e13 := e1.trans e3
    walk_at "rd"
    exact ⟨z, h, n, b, L, dk, l2, pk, fd, _, rfl, lay3, hpk.up e13, hfd.up e13, zl, zo, n0, n1, h1, fun v A H4 e4 hv al wA => q v A H4 (e13.trans e4) hv al wA⟩
end
end K63

set_option maxHeartbeats 1000000
namespace K63
open PySem PySem.Spec PyProof.Rows L2 Dk Q61 Wd M63
/-- one step of a reading -/
local macro_rules | `(tactic| walk_at "rd1") => `(tactic| first
  | ((with_reducible refine r_var (v := ?rv) ?rh ?_); (case rh => rfl))
  | with_reducible refine r_c ?_
  | with_reducible refine r_seq ?_
  | with_reducible refine r_asg ?_
  | with_reducible refine r_par ?_
  | with_reducible refine r_gname ?_
  | with_reducible refine r_op ?_
  | with_reducible refine r_forLo ?_
  | with_reducible refine r_forTo ?_
  | with_reducible refine r_forSo ?_
  | with_reducible refine r_forRo ?_
  | with_reducible refine r_forRvo ?_
  | with_reducible refine r_forZo ?_
  | with_reducible refine r_revS ?_
  | with_reducible refine r_lcRo ?_
  | with_reducible refine r_lcLo ?_
  | with_reducible refine r_yes ?_
  | with_reducible refine r_callK0 ?_
  | with_reducible refine r_break ?_
  | with_reducible refine r_continue ?_
  | with_reducible refine r_forR2o ?_
  | with_reducible refine r_forEo ?_
  | with_reducible refine r_forESo ?_
  | with_reducible refine r_xfo ?_
  | with_reducible refine r_noP ?_
  | with_reducible refine r_part ?_
  | with_reducible refine r_pI ?_
  | with_reducible refine r_gcons ?_
  | with_reducible refine r_gnil ?_
  | with_reducible refine r_mkO ?_
  | with_reducible refine r_un ?_
  | with_reducible refine r_addI ?_
  | with_reducible refine r_I0 ?_
  | with_reducible refine r_U ?_
  | with_reducible refine r_cons ?_
  | with_reducible refine r_nil ?_
  | with_reducible refine r_CB ?_
  | with_reducible refine r_call ?_
  | with_reducible refine r_callS ?_
  | with_reducible refine r_int ?_
  | with_reducible refine r_max ?_
  | with_reducible refine r_min ?_
  | with_reducible refine r_test ?_
  | with_reducible refine r_B ?_
  | with_reducible refine r_blv ?_
  | with_reducible refine r_and ?_
  | with_reducible refine r_or ?_
  | with_reducible refine r_not ?_
  | with_reducible refine r_andV ?_
  | with_reducible refine r_orV ?_
  | with_reducible refine r_notV ?_
  | with_reducible refine r_ifE ?_
  | with_reducible refine r_ifS ?_
  | with_reducible refine r_ret ?_
  | with_reducible refine r_retN ?_
  | with_reducible refine r_drop ?_
  | with_reducible refine r_next ?_
  | with_reducible refine r_sl ?_
  | with_reducible refine r_gsub ?_
  | with_reducible refine r_bm ?_
  | with_reducible refine r_bm0 ?_
  | with_reducible refine r_tup ?_
  | with_reducible refine r_lst ?_
  | with_reducible refine r_isN ?_
  | with_reducible refine r_notN ?_
  | with_reducible refine r_chain ?_
  | with_reducible refine r_callK ?_
  | with_reducible refine r_isB ?_
  | with_reducible refine r_lcEio ?_
  | with_reducible refine r_forEi ?_
  | with_reducible refine r_lcTo ?_
  | with_reducible refine r_lcSo ?_
  | with_reducible refine r_m1 ?_
  | with_reducible refine r_dget ?_
  | with_reducible refine r_din ?_
  | with_reducible refine r_dnotin ?_
  | with_reducible refine Tc.r_inC ?_
  | with_reducible refine Tc.r_getC ?_
  | with_reducible refine r_starC ?_
  | with_reducible refine r_callKS ?_
  | with_reducible refine Dk.r_fld ?_
  | with_reducible refine Dk.r_forNo ?_
  | with_reducible refine Dk.r_lcR2o ?_
  | with_reducible refine Dk.r_dcE ?_
  | with_reducible refine Dk.r_gsliT ?_
  | with_reducible refine Dk.r_dcTo ?_
  | with_reducible refine Dk.r_sfld ?_
  | with_reducible refine Dk.r_meth ?_
  | with_reducible refine Dk.r_methK ?_
  | with_reducible refine Dk.r_methT ?_
  | with_reducible refine Dk.r_makeK ?_
  | with_reducible refine r_itt ?_
  | with_reducible refine r_iff ?_
  | with_reducible refine r_ittN ?_
  | with_reducible refine r_iffN ?_
  | ((with_reducible refine r_ittD ?rh ?_); (case rh => rfl))
  | ((with_reducible refine r_iffD ?rh ?_); (case rh => rfl))
  | ((with_reducible refine r_modP ?rh ?_); (case rh => decide))
  | ((with_reducible refine r_eq ?rh ?_); (case rh => rfl))
  | ((with_reducible refine r_eqP ?rh ?_); (case rh => rfl))
  | ((with_reducible refine r_ne ?rh ?_); (case rh => rfl)))
local macro_rules | `(tactic| walk_at "rd") => `(tactic| repeat walk_at "rd1")
local macro_rules | `(tactic| walk_at "isi") => `(tactic| first | refine r_isi (b := true) (by assumption) (by decide +kernel) ?_ | refine r_isi (b := false) (by assumption) (by decide +kernel) ?_)
local macro_rules | `(tactic| walk_at "rs1") => `(tactic| first
  | with_reducible refine r_seq ?_
  | with_reducible refine r_asg ?_
  | with_reducible refine r_gname ?_
  | with_reducible refine r_ret ?_)
local macro_rules | `(tactic| walk_at "rs") => `(tactic| repeat walk_at "rs1")

def spPair (K : PySem.W.Frag) : Sp := fun vs H Q _ => ∃ (p d : Addr) (u v : V) (A B : List (List Til)) (w : Nat), vs = [.ref p, u, v] ∧ (pool p d).B H ∧ ScV K H u A ∧ ScV K H v B ∧ A.length = B.length ∧ Wide w A ∧ Wide w B ∧ 1 ≤ w ∧ w ≤ 100 ∧ 1 ≤ A.length ∧ A.length ≤ 100 ∧ w * A.length ≤ 1000 ∧
  ∀ H', Drw (pool p d) H H' → Q (.bl true) H'
theorem dueTo_len2 {A B : List (List Til)} {w : Nat} (hB : Wide w B) : ∀ j, (dueTo A B j).length ≤ w * j
  | 0 => Nat.zero_le _
  | j + 1 => by
    have ih := dueTo_len2 (A := A) hB j
    rw [dueTo, List.length_append]
    have h1 : (B.getD j []).length ≤ w := by
      rw [List.getD_eq_getElem?_getD]
      cases e : B[j]? with
      | none => exact Nat.zero_le _
      | some b => exact Nat.le_of_eq (hB b (List.mem_of_getElem? e))
    have h2 : (dueRow j (A.getD j []) (B.getD j [])).length ≤ (B.getD j []).length := by
      rw [dueRow_eq, List.length_map]
      exact fin_le _
    rw [Nat.mul_add, Nat.mul_one]
    omega
section
variable {P : Program} {w : World} {K : PySem.W.Frag} {mg : Str → Option Value} {base : Heap}
theorem ok_law_pair (T : Txt K mg) : FnOk P w K mg base CX0 6 T.a_law_pair T.d_law_pair ["_law_pool_here", "_law_one", "_law_other"] (spPair K) := by
  refine T.F_law_pair.ok sc_law_pair (fun vs H Q E h => ?_) (fun cdv A outer s H vs Q E hr h => ?_)
  · obtain ⟨p, d, u, v, A, B, w, rfl, _⟩ := h
    rfl
  · obtain ⟨p, d, u, v, A, B, wd, rfl, hB, hA, hO, hl, wA, wB, w0, w1, a0, a1, wa, q⟩ := h
    refine ⟨_, (pss_cons (ps_set (i := 3) sc_law_pair.nd rfl (Or.inl rfl) (pe_call (ok_law_due T) (hr.mono (by decide)) (by rfl) T.g_law_due T.F_law_due.kp T.b_law_due .nil pass0 (pa_cons (pv 1) (pa_cons (pv 2) pa_nil))))
        (pss_cons (ps_if (PW.pt (pw_or (pt_not (pt_val (pe_call (ok_law_same T) hr (by rfl) T.g_law_same T.F_law_same.kp T.b_law_same .nil pass0 (pa_cons (pe_call (ok_paints T) (hr.mono (by decide)) (by rfl) T.g_paints T.F_paints.kp T.b_paints .nil pass0 (pa_cons (pv 1) (pa_cons (pv 2) pa_nil))) (pa_cons (pv 3) pa_nil))))) (pw_or1 (pt_not (pt_val (pe_call (ok_law_same T) hr (by rfl) T.g_law_same T.F_law_same.kp T.b_law_same .nil pass0 (pa_cons (pe_callK0 (ok_paints T) (hr.mono (by decide)) (by rfl) T.g_paints T.F_paints.kp T.kb_paints_0 pass0 (pk_cons (pv 2) (pk_cons (pv 1) pk_nil))) (pa_cons (pv 3) pa_nil)))))))) (pss_one (ps_ret pe_bl)) pss_nil)
        (pss_cons (ps_if (PW.pt (pw_or (pt_not (pt_val (pe_call (ok_law_same T) hr (by rfl) T.g_law_same T.F_law_same.kp T.b_law_same .nil pass0 (pa_cons (pe_call (ok_painted T) (hr.mono (by decide)) (by rfl) T.g_painted T.F_painted.kp T.b_painted .nil pass0 (pa_cons (pv 1) (pa_cons (pv 3) pa_nil))) (pa_cons (pv 2) pa_nil))))) (pw_or1 (pt_not (pt_val (pe_call (ok_law_same T) hr (by rfl) T.g_law_same T.F_law_same.kp T.b_law_same .nil pass0 (pa_cons (pe_call (ok_painted T) (hr.mono (by decide)) (by rfl) T.g_painted T.F_painted.kp T.b_painted .nil pass0 (pa_cons (pv 1) (pa_cons (pe_tup pa_nil) pa_nil))) (pa_cons (pv 1) pa_nil)))))))) (pss_one (ps_ret pe_bl)) pss_nil)
        (Evl.pss_cut (ps_if (pt_cmpR op_gt (pe_callB call_lenU (by rfl) T.n_len (by decide +kernel) (pa_cons (pv 3) pa_nil)) pe_int (nomark _)) (pss_cons (ps_set (i := 4) sc_law_pair.nd rfl (Or.inl rfl) (pe_call (ok_law_next T) (hr.mono (by decide)) (by rfl) T.g_law_next T.F_law_next.kp T.b_law_next .nil pass0 (pa_cons (pv 0) (pa_cons (pe_callB call_lenU (by rfl) T.n_len (by decide +kernel) (pa_cons (pv 3) pa_nil)) pa_nil))))
        (pss_cons (ps_set (i := 5) sc_law_pair.nd rfl (Or.inl rfl) (pe_op op_addU (pe_slice sl_U (pv 3) po_none (po_some (pv 4))) (pe_slice sl_U (pv 3) (po_some (pe_op op_addU (pv 4) pe_int)) po_none)))
        (pss_one (ps_if (pt_not (pt_val (pe_call (ok_law_same T) hr (by rfl) T.g_law_same T.F_law_same.kp T.b_law_same .nil pass0 (pa_cons (pe_call (ok_painted T) (hr.mono (by decide)) (by rfl) T.g_painted T.F_painted.kp T.b_painted .nil pass0 (pa_cons (pv 1) (pa_cons (pv 5) pa_nil))) (pa_cons (pe_call (ok_law_spread T) (hr.mono (by decide)) (by rfl) T.g_law_spread T.F_law_spread.kp T.b_law_spread .nil pass0 (pa_cons (pv 1) (pa_cons (pv 5) pa_nil))) pa_nil))))) (pss_one (ps_ret pe_bl)) pss_nil)))) pss_nil)
        (pss_cons (ps_set (i := 6) sc_law_pair.nd rfl (Or.inl rfl) (pe_call (ok_law_strokes T) (hr.mono (by decide)) (by rfl) T.g_law_strokes T.F_law_strokes.kp T.b_law_strokes .nil pass0 (pa_cons (pv 0) (pa_cons (pv 1) (pa_cons (pv 2) pa_nil)))))
        (pss_one (ps_ret (pe_call (ok_law_same T) hr (by rfl) T.g_law_same T.F_law_same.kp T.b_law_same .nil pass0 (pa_cons (pe_callK0 (ok_painted T) (hr.mono (by decide)) (by rfl) T.g_painted T.F_painted.kp T.kb_painted_0 pass0 (pk_cons (pv 6) (pk_cons (pv 1) pk_nil))) (pa_cons (pe_call (ok_law_spread T) (hr.mono (by decide)) (by rfl) T.g_law_spread T.F_law_spread.kp T.b_law_spread .nil pass0 (pa_cons (pv 1) (pa_cons (pv 6) pa_nil))) pa_nil)))))))))), ?_⟩
    have bl : B.length ≤ 100 := by omega
    have dok := due_ok hl wA wB B.length (Nat.le_refl _)
    have dl : (due A B).length ≤ 1000 := by
      have := dueTo_len2 (A := A) wB B.length
      rw [hl] at wa
      unfold due
      omega
    have lw : ∀ r ∈ A, r.length ≤ 1000 := fun r hr => by rw [wA r hr]; omega
    have lwB : ∀ r ∈ B, r.length ≤ 1000 := fun r hr => by rw [wB r hr]; omega
    have dl1 : ∀ s ∈ due A B, s.2.2.length ≤ 1000 := fun s hs => by have := (dok s hs).2; omega
    walk_at "rd"
    refine ⟨u, v, A, B, wd, rfl, hA, hO, hl, bl, wA, wB, w1, fun v1 H1 e1 hv1 => ?_⟩
    walk_at "rd"
    refine ⟨u, v, A, B, wd, rfl, imm (R := ScV K) (.ex e1) hA, imm (R := ScV K) (.ex e1) hO, hl, bl, wA, wB, w1, fun v2 H2 e2 hv2 => ?_⟩
    walk_at "rd"
    refine ⟨v2, v1, rfl, sm_sts (d := 0) hv2 (imm (R := TupV K (StV K)) (.ex e2) hv1) (by omega) dl1, fun H3 e3 => ?_⟩
    have e13 := (e1.trans e2).trans e3
    walk_at "rd"
    refine ⟨u, v, A, B, wd, rfl, imm (R := ScV K) (.ex e13) hA, imm (R := ScV K) (.ex e13) hO, hl, bl, wA, wB, w1, fun v4 H4 e4 hv4 => ?_⟩
    have hd4 := imm (R := TupV K (StV K)) (.ex ((e2.trans e3).trans e4)) hv1
    walk_at "rd"
    refine ⟨v4, v1, rfl, sm_sts (d := 0) hv4 hd4 (by omega) dl1, fun H5 e5 => ?_⟩
    have e15 := (e13.trans e4).trans e5
    have hd5 := imm (R := TupV K (StV K)) (.ex e5) hd4
    walk_at "rd"
    refine ⟨u, v1, A, due A B, wd, rfl, imm (R := ScV K) (.ex e15) hA, hd5, a1, wA, w1, fun s hs => (dok s hs).1, fun v6 H6 e6 hv6 => ?_⟩
    rw [paint_due_all hl wA wB] at hv6
    walk_at "rd"
    refine ⟨v6, v, rfl, sm_sc (d := 1) hv6 (imm (R := ScV K) (.ex (e15.trans e6)) hO) (by omega) lwB, fun H7 e7 => ?_⟩
    have e17 := (e15.trans e6).trans e7
    walk_at "rd"
    refine r_small nsz fun pe hpe => ?_
    obtain ⟨H8, k8, e8, h8⟩ := new1 hpe (.tup [])
    rw [← k8]
    have e18 := e17.trans e8
    walk_at "rd"
    refine ⟨u, .ref pe, A, [], wd, rfl, imm (R := ScV K) (.ex e18) hA, ⟨pe, [], rfl, .inl h8, .nil⟩, a1, wA, w1, (fun s hs => nomatch hs), fun v9 H9 e9 hv9 => ?_⟩
    rw [show paint A ([] : List (Stk Til)) = A from rfl] at hv9
    walk_at "rd"
    refine ⟨v9, u, rfl, sm_sc (d := 1) hv9 (imm (R := ScV K) (.ex (e18.trans e9)) hA) (by omega) lw, fun H10 e10 => ?_⟩
    have eA := (e18.trans e9).trans e10
    have hdA := imm (R := TupV K (StV K)) (.ex ((((e6.trans e7).trans e8).trans e9).trans e10)) hd5
    -- the strokes
    walk_at "rd"
    refine ⟨fun σ' H' => ∃ y4 y5, σ' = [some (.ref p), some u, some v, some v1, y4, y5, none] ∧ Drw (pool p d) H H', ?_, fun σ' H' hM => ?_⟩
    · walk_at "rd"
      refine r_lenTV hdA ?_
      walk_at "rd"
      refine r_ite (fun c => ?_) (fun c => ?_)
      · walk_at "rd"
        refine r_lenTV hdA ?_
        walk_at "rd"
        refine ⟨p, d, _, rfl, (pool p d).up hB eA, by omega, fun k H11 k0 k1 D11 => ?_⟩
        obtain ⟨k, rfl⟩ := Int.eq_ofNat_of_zero_le k0
        have t11 := pool_tk ((pool p d).up hB eA) D11
        have hd11 := imm (R := TupV K (StV K)) t11 hdA
        have hA11 := imm (R := ScV K) t11 (imm (R := ScV K) (.ex eA) hA)
        walk_at "rd"
        refine r_slTo (k := k) hd11 fun w1' H12 e12 hw1 => ?_
        walk_at "rd"
        refine r_slFrom (k := k + 1) (imm (R := TupV K (StV K)) (.ex e12) hd11) fun w2' H13 e13' hw2 => ?_
        walk_at "rd"
        refine r_catTV (imm (R := TupV K (StV K)) (.ex e13') hw1) hw2 (by rw [List.length_take, List.length_drop]; omega) fun w3 H14 e14 hw3 => ?_
        have e24 := (e12.trans e13').trans e14
        obtain ⟨L, hL⟩ : ∃ L, L = (due A B).take k ++ (due A B).drop (k + 1) := ⟨_, rfl⟩
        rw [← hL] at hw3
        have lok : ∀ s ∈ L, OkS A s := fun s hs => by
          rw [hL] at hs
          rcases List.mem_append.mp hs with h | h
          · exact (dok s (List.mem_of_mem_take h)).1
          · exact (dok s (List.mem_of_mem_drop h)).1
        walk_at "rd"
        refine ⟨u, w3, A, L, wd, rfl, imm (R := ScV K) (.ex e24) hA11, hw3, a1, wA, w1, lok, fun v15 H15 e15' hv15 => ?_⟩
        walk_at "rd"
        refine ⟨u, w3, A, L, wd, rfl, imm (R := ScV K) (.ex (e24.trans e15')) hA11, imm (R := TupV K (StV K)) (.ex e15') hw3, a1, wA, w1, lok, fun v16 H16 e16 hv16 => ?_⟩
        walk_at "rd"
        refine ⟨v15, v16, rfl, sm_sc (d := 1) (imm (R := ScV K) (.ex e16) hv15) hv16 (by rw [paint_len]; omega) (fun r hr => by rw [wide_paint wA lok r hr]; omega), fun H17 e17' => ?_⟩
        walk_at "rd"
        exact ⟨_, _, rfl, ((Drw.ex hB eA).trans D11).then (((e24.trans e15').trans e16).trans e17')⟩
      · walk_at "rd"
        exact ⟨_, _, rfl, .ex hB eA⟩
    · obtain ⟨y4, y5, rfl, D⟩ := hM
      have t := pool_tk hB D
      have hA2 := imm (R := ScV K) t hA
      walk_at "rd"
      refine ⟨p, d, u, v, A, B, wd, rfl, D.st, hA2, imm (R := ScV K) t hO, hl, wA, wB, w0, w1, a0, a1, fun s L H1 D1 hs lok => ?_⟩
      have hA3 := imm (R := ScV K) (pool_tk D.st D1) hA2
      walk_at "rd"
      refine ⟨u, s, A, L, wd, rfl, hA3, hs, a1, wA, w1, lok, fun v2 H2 e2 hv2 => ?_⟩
      walk_at "rd"
      refine ⟨u, s, A, L, wd, rfl, imm (R := ScV K) (.ex e2) hA3, imm (R := TupV K (StV K)) (.ex e2) hs, a1, wA, w1, lok, fun v3 H3 e3 hv3 => ?_⟩
      walk_at "rd"
      refine ⟨v2, v3, rfl, sm_sc (d := 1) (imm (R := ScV K) (.ex e3) hv2) hv3 (by rw [paint_len]; omega) (fun r hr => by rw [wide_paint wA lok r hr]; omega), fun H4 e4 => ?_⟩
      exact q _ ((D.trans D1).then ((e2.trans e3).trans e4))
end
end K63

set_option maxHeartbeats 2000000
namespace K63
open PySem PySem.Spec PyProof.Rows L2 Dk Q61 Wd M63
/-- one step of a reading -/
local macro_rules | `(tactic| walk_at "rd1") => `(tactic| first
  | ((with_reducible refine r_var (v := ?rv) ?rh ?_); (case rh => rfl))
  | with_reducible refine r_c ?_
  | with_reducible refine r_seq ?_
  | with_reducible refine r_asg ?_
  | with_reducible refine r_par ?_
  | with_reducible refine r_gname ?_
  | with_reducible refine r_op ?_
  | with_reducible refine r_forLo ?_
  | with_reducible refine r_forTo ?_
  | with_reducible refine r_forSo ?_
  | with_reducible refine r_forRo ?_
  | with_reducible refine r_forRvo ?_
  | with_reducible refine r_forZo ?_
  | with_reducible refine r_revS ?_
  | with_reducible refine r_lcRo ?_
  | with_reducible refine r_lcLo ?_
  | with_reducible refine r_yes ?_
  | with_reducible refine r_callK0 ?_
  | with_reducible refine r_break ?_
  | with_reducible refine r_continue ?_
  | with_reducible refine r_forR2o ?_
  | with_reducible refine r_forEo ?_
  | with_reducible refine r_forESo ?_
  | with_reducible refine r_xfo ?_
  | with_reducible refine r_noP ?_
  | with_reducible refine r_part ?_
  | with_reducible refine r_pI ?_
  | with_reducible refine r_gcons ?_
  | with_reducible refine r_gnil ?_
  | with_reducible refine r_mkO ?_
  | with_reducible refine r_un ?_
  | with_reducible refine r_addI ?_
  | with_reducible refine r_I0 ?_
  | with_reducible refine r_U ?_
  | with_reducible refine r_cons ?_
  | with_reducible refine r_nil ?_
  | with_reducible refine r_CB ?_
  | with_reducible refine r_call ?_
  | with_reducible refine r_callS ?_
  | with_reducible refine r_int ?_
  | with_reducible refine r_max ?_
  | with_reducible refine r_min ?_
  | with_reducible refine r_test ?_
  | with_reducible refine r_B ?_
  | with_reducible refine r_blv ?_
  | with_reducible refine r_and ?_
  | with_reducible refine r_or ?_
  | with_reducible refine r_not ?_
  | with_reducible refine r_andV ?_
  | with_reducible refine r_orV ?_
  | with_reducible refine r_notV ?_
  | with_reducible refine r_ifE ?_
  | with_reducible refine r_ifS ?_
  | with_reducible refine r_ret ?_
  | with_reducible refine r_retN ?_
  | with_reducible refine r_drop ?_
  | with_reducible refine r_next ?_
  | with_reducible refine r_sl ?_
  | with_reducible refine r_gsub ?_
  | with_reducible refine r_bm ?_
  | with_reducible refine r_bm0 ?_
  | with_reducible refine r_tup ?_
  | with_reducible refine r_lst ?_
  | with_reducible refine r_isN ?_
  | with_reducible refine r_notN ?_
  | with_reducible refine r_chain ?_
  | with_reducible refine r_callK ?_
  | with_reducible refine r_isB ?_
  | with_reducible refine r_lcEio ?_
  | with_reducible refine r_forEi ?_
  | with_reducible refine r_lcTo ?_
  | with_reducible refine r_lcSo ?_
  | with_reducible refine r_m1 ?_
  | with_reducible refine r_dget ?_
  | with_reducible refine r_din ?_
  | with_reducible refine r_dnotin ?_
  | with_reducible refine Tc.r_inC ?_
  | with_reducible refine Tc.r_getC ?_
  | with_reducible refine r_starC ?_
  | with_reducible refine r_callKS ?_
  | with_reducible refine Dk.r_fld ?_
  | with_reducible refine Dk.r_forNo ?_
  | with_reducible refine Dk.r_lcR2o ?_
  | with_reducible refine Dk.r_dcE ?_
  | with_reducible refine Dk.r_gsliT ?_
  | with_reducible refine Dk.r_dcTo ?_
  | with_reducible refine Dk.r_sfld ?_
  | with_reducible refine Dk.r_meth ?_
  | with_reducible refine Dk.r_methK ?_
  | with_reducible refine Dk.r_methT ?_
  | with_reducible refine Dk.r_makeK ?_
  | with_reducible refine r_itt ?_
  | with_reducible refine r_iff ?_
  | with_reducible refine r_ittN ?_
  | with_reducible refine r_iffN ?_
  | ((with_reducible refine r_ittD ?rh ?_); (case rh => rfl))
  | ((with_reducible refine r_iffD ?rh ?_); (case rh => rfl))
  | ((with_reducible refine r_modP ?rh ?_); (case rh => decide))
  | ((with_reducible refine r_eq ?rh ?_); (case rh => rfl))
  | ((with_reducible refine r_eqP ?rh ?_); (case rh => rfl))
  | ((with_reducible refine r_ne ?rh ?_); (case rh => rfl)))
local macro_rules | `(tactic| walk_at "rd") => `(tactic| repeat walk_at "rd1")
local macro_rules | `(tactic| walk_at "isi") => `(tactic| first | refine r_isi (b := true) (by assumption) (by decide +kernel) ?_ | refine r_isi (b := false) (by assumption) (by decide +kernel) ?_)
local macro_rules | `(tactic| walk_at "rs1") => `(tactic| first
  | with_reducible refine r_seq ?_
  | with_reducible refine r_asg ?_
  | with_reducible refine r_gname ?_
  | with_reducible refine r_ret ?_)
local macro_rules | `(tactic| walk_at "rs") => `(tactic| repeat walk_at "rs1")

def sp_law (K : PySem.W.Frag) : Sp := fun vs H Q _ => ∃ (a : Addr) (ns : List Int), vs = [.ref a] ∧ SqL K H a (ns.map V.int) ∧ ns.length ≤ 63 ∧ ∀ H', Q (.bl true) H'
theorem fin_same {e : Nat → Bool} (h : ∀ k, e k = true) : ∀ k, fin e k = []
  | 0 => by unfold fin; rw [if_neg (Nat.not_lt_zero _)]; rfl
  | k + 1 => by rw [(fin_yes (h k)).1]; exact fin_same h k
theorem due_self {A : List (List Til)} : due A A = [] := by
  have key : ∀ j, dueTo A A j = [] := by
    intro j
    induction j with
    | zero => rfl
    | succ j ih =>
      rw [dueTo, ih, dueRow_eq, fin_same (e := alike (A.getD j []) (A.getD j [])) (fun k => decide_eq_true rfl)]
      rfl
  exact key _
theorem okz_app {x y : Str} (h1 : OkZ x) (h2 : OkZ y) : OkZ (x ++ y) := fun c hc => by
  rw [cs_app] at hc
  rcases List.mem_append.mp hc with h | h
  · exact h1 c h
  · exact h2 c h
theorem okz_to {z : Str} {k : Nat} (h : OkZ z) : OkZ (cutS z none (some (k : Int))) ∧ (cutS z none (some (k : Int))).length ≤ z.length := by
  have e : cs (cutS z none (some (k : Int))) = ((cs z).drop 0).take (k - 0) := cs_cut z 0 k
  exact ⟨fun c hc => h c (by rw [e] at hc; exact List.mem_of_mem_drop (List.mem_of_mem_take hc)), by rw [← cs_len, ← cs_len z, e, List.length_take, List.length_drop]; omega⟩
theorem okz_from {z : Str} {k : Nat} (h : OkZ z) : OkZ (cutS z (some (k : Int)) none) ∧ (cutS z (some (k : Int)) none).length ≤ z.length := by
  have e : cs (cutS z (some (k : Int)) none) = (cs z).drop k := cs_from z k
  exact ⟨fun c hc => h c (by rw [e] at hc; exact List.mem_of_mem_drop hc), by rw [← cs_len, ← cs_len z, e, List.length_drop]; omega⟩
section
variable {P : Program} {w : World} {K : PySem.W.Frag} {mg : Str → Option Value} {base : Heap}
theorem ok_law (T : Txt K mg) : FnOk P w K mg base CX0 9 T.a_law T.d_law ["_law_script"] (sp_law K) := by
  refine T.F_law.ok sc_law (fun vs H Q E h => ?_) (fun cdv A outer s H vs Q E hr h => ?_)
  · obtain ⟨a, ns, rfl, _⟩ := h
    rfl
  · obtain ⟨a, ns, rfl, hS, hlen, q⟩ := h
    refine ⟨_, (pss_cons (ps_set (i := 1) sc_law.nd rfl (Or.inl rfl) (pe_call (ok_law_pool T) (hr.mono (by decide)) (by rfl) T.g_law_pool T.F_law_pool.kp T.b_law_pool .nil pass0 (pa_cons (pv 0) pa_nil)))
        (pss_cons (ps_set (i := 2) sc_law.nd rfl (Or.inl rfl) (pe_op op_addU pe_int (pe_call (ok_law_next T) (hr.mono (by decide)) (by rfl) T.g_law_next T.F_law_next.kp T.b_law_next .nil pass0 (pa_cons (pv 1) (pa_cons pe_int pa_nil)))))
        (pss_cons (ps_set (i := 3) sc_law.nd rfl (Or.inl rfl) (pe_op op_addU pe_int (pe_call (ok_law_next T) (hr.mono (by decide)) (by rfl) T.g_law_next T.F_law_next.kp T.b_law_next .nil pass0 (pa_cons (pv 1) (pa_cons pe_int pa_nil)))))
        (pss_cons (ps_set (i := 4) sc_law.nd rfl (Or.inl rfl) (pe_call (ok_law_next T) (hr.mono (by decide)) (by rfl) T.g_law_next T.F_law_next.kp T.b_law_next .nil pass0 (pa_cons (pv 1) (pa_cons pe_int pa_nil))))
        (Evl.pss_cut (ps_if (pt_cmpR (op_eqU hr.units) (pv 4) pe_int (nomark _)) (pss_one (ps_set (i := 2) sc_law.nd rfl (Or.inl rfl) pe_int)) pss_nil)
        (Evl.pss_cut (ps_if (pt_cmpR (op_eqU hr.units) (pv 4) pe_int (nomark _)) (pss_one (ps_set (i := 3) sc_law.nd rfl (Or.inl rfl) pe_int)) pss_nil)
        (pss_cons (ps_set (i := 5) sc_law.nd rfl (Or.inl rfl) (pe_call (ok_law_screen T) (hr.mono (by decide)) (by rfl) T.g_law_screen T.F_law_screen.kp T.b_law_screen .nil pass0 (pa_cons (pv 1) (pa_cons (pv 2) (pa_cons (pv 3) pa_nil)))))
        (pss_cons (ps_set (i := 6) sc_law.nd rfl (Or.inl rfl) (pe_call (ok_law_turned T) (hr.mono (by decide)) (by rfl) T.g_law_turned T.F_law_turned.kp T.b_law_turned .nil pass0 (pa_cons (pv 1) (pa_cons (pv 5) pa_nil))))
        (Evl.pss_cut (ps_if (pt_cmpR (op_eqU hr.units) (pe_call (ok_law_next T) (hr.mono (by decide)) (by rfl) T.g_law_next T.F_law_next.kp T.b_law_next .nil pass0 (pa_cons (pv 1) (pa_cons pe_int pa_nil))) pe_int (nomark _)) (pss_one (ps_set (i := 6) sc_law.nd rfl (Or.inl rfl) (pe_call (ok_law_screen T) (hr.mono (by decide)) (by rfl) T.g_law_screen T.F_law_screen.kp T.b_law_screen .nil pass0 (pa_cons (pv 1) (pa_cons (pv 2) (pa_cons (pv 3) pa_nil)))))) pss_nil)
        (pss_cons (ps_if (PW.pt (pw_or (pt_not (pt_val (pe_call (ok_law_pair T) (hr.mono (by decide)) (by rfl) T.g_law_pair T.F_law_pair.kp T.b_law_pair .nil pass0 (pa_cons (pv 1) (pa_cons (pv 5) (pa_cons (pv 6) pa_nil)))))) (pw_or1 (pt_not (pt_val (pe_call (ok_law_same T) (hr.mono (by decide)) (by rfl) T.g_law_same T.F_law_same.kp T.b_law_same .nil pass0 (pa_cons (pe_call (ok_paints T) (hr.mono (by decide)) (by rfl) T.g_paints T.F_paints.kp T.b_paints .nil pass0 (pa_cons (pv 5) (pa_cons (pv 5) pa_nil))) (pa_cons (pe_tup pa_nil) pa_nil)))))))) (pss_one (ps_ret pe_bl)) pss_nil)
        (pss_cons (ps_set (i := 7) sc_law.nd rfl (Or.inl rfl) (pe_lst (pa_cons (pe_call (ok_law_text T) (hr.mono (by decide)) (by rfl) T.g_law_text T.F_law_text.kp T.b_law_text .nil pass0 (pa_cons (pv 1) pa_nil)) (pa_cons (pe_call (ok_law_text T) (hr.mono (by decide)) (by rfl) T.g_law_text T.F_law_text.kp T.b_law_text .nil pass0 (pa_cons (pv 1) pa_nil)) pa_nil))))
        (Evl.pss_cut (ps_if (pt_cmpR (op_eqU hr.units) (pe_call (ok_law_next T) (hr.mono (by decide)) (by rfl) T.g_law_next T.F_law_next.kp T.b_law_next .nil pass0 (pa_cons (pv 1) (pa_cons pe_int pa_nil))) pe_int (nomark _)) (pss_cons (ps_set (i := 8) sc_law.nd rfl (Or.inl rfl) (pe_call (ok_law_next T) (hr.mono (by decide)) (by rfl) T.g_law_next T.F_law_next.kp T.b_law_next .nil pass0 (pa_cons (pv 1) (pa_cons (pe_op op_addU (pe_callB call_lenU (by rfl) T.n_len (by decide +kernel) (pa_cons (pe_ix ix_seq (pv 7) pe_int (fun _ _ => rfl)) pa_nil)) pe_int) pa_nil))))
        (pss_one (ps_asg (pe_op op_addU (pe_op op_addU (pe_slice sl_U (pe_ix ix_seq (pv 7) pe_int (fun _ _ => rfl)) po_none (po_some (pv 8))) pe_str) (pe_slice sl_U (pe_ix ix_seq (pv 7) pe_int (fun _ _ => rfl)) (po_some (pv 8)) po_none)) (pg_sub (pv 7) pe_int set_list)))) pss_nil)
        (pss_cons (ps_set (i := 5) sc_law.nd rfl (Or.inl rfl) (pe_callK (ok_screen_of T) hr (by rfl) T.g_screen_of T.F_screen_of.kp T.kb_screen_of_0 pass0 (pa_cons (pe_ix ix_seq (pv 7) pe_int (fun _ _ => rfl)) (pa_cons (pv 2) (pa_cons (pv 3) pa_nil))) pk_nil))
        (pss_cons (ps_set (i := 6) sc_law.nd rfl (Or.inl rfl) (pe_callK (ok_screen_of T) hr (by rfl) T.g_screen_of T.F_screen_of.kp T.kb_screen_of_1 pass0 (pa_cons (pe_ix ix_seq (pv 7) pe_int (fun _ _ => rfl)) (pa_cons (pv 2) (pa_cons (pv 3) pa_nil))) (pk_cons (pe_cmpR (op_eqU hr.units) (pe_call (ok_law_next T) (hr.mono (by decide)) (by rfl) T.g_law_next T.F_law_next.kp T.b_law_next .nil pass0 (pa_cons (pv 1) (pa_cons pe_int pa_nil))) pe_int (nomark _)) pk_nil)))
        (pss_one (ps_ret (pe_and (pe_call (ok_law_pair T) (hr.mono (by decide)) (by rfl) T.g_law_pair T.F_law_pair.kp T.b_law_pair .nil pass0 (pa_cons (pv 1) (pa_cons (pv 5) (pa_cons (pv 6) pa_nil)))) (pe_one (pe_call (ok_law_pair T) (hr.mono (by decide)) (by rfl) T.g_law_pair T.F_law_pair.kp T.b_law_pair .nil pass0 (pa_cons (pv 1) (pa_cons (pv 6) (pa_cons (pv 5) pa_nil)))))))))))))))))))))), ?_⟩
    walk_at "rd"
    refine ⟨a, ns, rfl, hS, hlen, fun p d H1 e1 np nd B1 => ?_⟩
    walk_at "rd"
    refine ⟨p, d, 9, rfl, B1, by decide, fun w0 H2 w00 w01 D2 => ?_⟩
    obtain ⟨w0, rfl⟩ := Int.eq_ofNat_of_zero_le w00
    walk_at "rd"
    refine ⟨p, d, 5, rfl, D2.st, by decide, fun h0 H3 h00 h01 D3 => ?_⟩
    obtain ⟨h0, rfl⟩ := Int.eq_ofNat_of_zero_le h00
    walk_at "rd"
    refine ⟨p, d, 40, rfl, D3.st, by decide, fun g H4 g0 g1 D4 => ?_⟩
    walk_at "rd"
    refine ⟨fun σ' H' => H4 = H' ∧ ∃ wd : Nat, σ' = [some (.ref a), some (.ref p), some (.int (wd : Nat)), some (.int ((1 + h0 : Nat) : Int)), some (.int g), none, none, none, none] ∧ 4 ≤ wd ∧ wd ≤ 80 ∧ (g ≠ 0 → wd ≤ 12), ?_, fun σ' H' hM => ?_⟩
    · walk_at "rd"
      refine r_iteB (fun c => ?_) (fun c => ?_)
      · have c := of_decide_eq_true c
        injection c with c
        walk_at "rd"
        exact ⟨rfl, 80, by rw [Int.natCast_add]; rfl, by decide, by decide, fun z => absurd c z⟩
      · walk_at "rd"
        exact ⟨rfl, 4 + w0, by rw [Int.natCast_add, Int.natCast_add]; rfl, by omega, by omega, fun _ => by omega⟩
    obtain ⟨rfl, wd, rfl, wd0, wd1, wd2⟩ := hM
    refine ⟨fun σ' H' => H4 = H' ∧ ∃ hi : Nat, σ' = [some (.ref a), some (.ref p), some (.int (wd : Nat)), some (.int (hi : Nat)), some (.int g), none, none, none, none] ∧ 1 ≤ hi ∧ hi ≤ 40 ∧ wd * hi ≤ 1000, ?_, fun σ' H' hM => ?_⟩
    · walk_at "rd"
      refine r_iteB (fun c => ?_) (fun c => ?_)
      · have c := of_decide_eq_true c
        injection c with c
        have w12 : wd ≤ 12 := wd2 (by omega)
        walk_at "rd"
        exact ⟨rfl, 40, rfl, by decide, by decide, Nat.le_trans (Nat.mul_le_mul_right 40 w12) (by decide)⟩
      · walk_at "rd"
        exact ⟨rfl, 1 + h0, rfl, by omega, by omega, Nat.le_trans (Nat.mul_le_mul wd1 (show 1 + h0 ≤ 5 by omega)) (by decide)⟩
    obtain ⟨rfl, hi, rfl, hi0, hi1, wh⟩ := hM
    have D14 := (D2.trans D3).trans D4
    walk_at "rd"
    refine ⟨p, d, wd, hi, rfl, D14.st, by omega, by omega, fun v5 A5 H5 D5 hA5 al5 wA5 => ?_⟩
    walk_at "rd"
    refine ⟨p, d, v5, A5, wd, rfl, D5.st, hA5, wA5, by omega, by omega, fun v6 B6 H6 D6 hB6 bl6 wB6 => ?_⟩
    have hA6 := imm (R := ScV K) (pool_tk D5.st D6) hA5
    have D16 := (D14.trans D5).trans D6
    walk_at "rd"
    refine ⟨fun σ' H' => Drw (pool p d) H1 H' ∧ ∃ v B, σ' = [some (.ref a), some (.ref p), some (.int (wd : Nat)), some (.int (hi : Nat)), some (.int g), some v5, some v, none, none] ∧ ScV K H' v5 A5 ∧ ScV K H' v B ∧ B.length = A5.length ∧ Wide wd B, ?_, fun σ' H7 hM => ?_⟩
    · walk_at "rd"
      refine ⟨p, d, 4, rfl, D16.st, by decide, fun c H7 c0 c1 D7 => ?_⟩
      have t7 := pool_tk D16.st D7
      walk_at "rd"
      refine r_iteB (fun _ => ?_) (fun _ => ?_)
      · walk_at "rd"
        refine ⟨p, d, wd, hi, rfl, D7.st, by omega, by omega, fun v8 A8 H8 D8 hA8 al8 wA8 => ?_⟩
        walk_at "rd"
        exact ⟨(D16.trans D7).trans D8, v8, A8, rfl, imm (R := ScV K) (t7.trans (pool_tk D7.st D8)) hA6, hA8, by omega, wA8⟩
      · walk_at "rd"
        exact ⟨D16.trans D7, v6, B6, rfl, imm (R := ScV K) t7 hA6, imm (R := ScV K) t7 hB6, bl6, wB6⟩
    obtain ⟨D17, v7, B7, rfl, hA7, hB7, bl7, wB7⟩ := hM
    walk_at "rd"
    refine ⟨p, d, v5, v7, A5, B7, wd, rfl, D17.st, hA7, hB7, by omega, wA5, wB7, by omega, by omega, by omega, by omega, by rw [al5]; exact wh, fun H8 D8 => ?_⟩
    have D18 := D17.trans D8
    have hA8 := imm (R := ScV K) (pool_tk D17.st D8) hA7
    walk_at "rd"
    refine ⟨v5, v5, A5, A5, wd, rfl, hA8, hA8, rfl, by omega, wA5, wA5, by omega, fun v9 H9 e9 hv9 => ?_⟩
    rw [due_self] at hv9
    walk_at "rd"
    refine r_small nsz fun pe hpe => ?_
    obtain ⟨H10, k10, e10, h10⟩ := new1 hpe (.tup [])
    rw [← k10]
    walk_at "rd"
    refine ⟨v9, .ref pe, rfl, sm_sts (d := 0) (imm (R := TupV K (StV K)) (.ex e10) hv9) ⟨pe, [], rfl, .inl h10, .nil⟩ (Nat.zero_le _) (fun s hs => nomatch hs), fun H11 e11 => ?_⟩
    have D11 := D18.then ((e9.trans e10).trans e11)
    -- the texts
    walk_at "rd"
    refine ⟨p, d, rfl, D11.st, fun z1 H12 D12 l1 o1 => ?_⟩
    walk_at "rd"
    refine ⟨p, d, rfl, D12.st, fun z2 H13 D13 l2 o2 => ?_⟩
    walk_at "rd"
    refine r_small nsz fun tl htl => ?_
    obtain ⟨H14, k14, e14, h14⟩ := new1 htl (.lst [V.str z1, V.str z2])
    rw [← k14]
    have D1e := ((D11.trans D12).trans D13).then e14
    have nt := (pool p d).fresh D13.st htl
    have tl0 : H1 tl = none := dr_none ((D11.trans D12).trans D13) htl
    walk_at "rd"
    refine ⟨fun σ' H' => Drw (pool p d) H1 H' ∧ ∃ y8 z3, σ' = [some (.ref a), some (.ref p), some (.int (wd : Nat)), some (.int (hi : Nat)), some (.int g), some v5, some v7, some (.ref tl), y8] ∧ H' tl = some (.lst [V.str z1, V.str z3]) ∧ z3.length ≤ 100 ∧ OkZ z3, ?_, fun σ' H15 hM => ?_⟩
    · walk_at "rd"
      refine ⟨p, d, 2, rfl, D1e.st, by decide, fun c H15 c0 c1 D15 => ?_⟩
      have g15 := D15.at nt h14
      walk_at "rd"
      refine r_iteB (fun _ => ?_) (fun _ => ?_)
      · walk_at "rd"
        refine r_ixL (sqL g15) (atI_nat (j := 0) rfl) ?_
        walk_at "rd"
        refine r_lenS (by rw [sizeLine_eq]; omega) ?_
        walk_at "rd"
        refine ⟨p, d, _, rfl, D15.st, by omega, fun k H16 k0 k1 D16' => ?_⟩
        obtain ⟨k, rfl⟩ := Int.eq_ofNat_of_zero_le k0
        have g16 := D16'.at nt g15
        walk_at "rd"
        refine r_ixL (sqL g16) (atI_nat (j := 0) rfl) ?_
        walk_at "rd"
        refine r_slS (by rw [sizeLine_eq]; omega) ?_
        obtain ⟨x1, x2⟩ := okz_to (k := k) o1
        obtain ⟨x3, x4⟩ := okz_from (k := k) o1
        walk_at "rd"
        refine r_addS (by rw [sizeLine_eq]; show _ + 1 ≤ _; omega) ?_
        walk_at "rd"
        refine r_ixL (sqL g16) (atI_nat (j := 0) rfl) ?_
        walk_at "rd"
        refine r_slS (by rw [sizeLine_eq]; omega) ?_
        have lx : ("x" : Str).length = 1 := rfl
        walk_at "rd"
        refine r_addS (by rw [sizeLine_eq, app_len]; omega) ?_
        walk_at "rd"
        refine r_setL (n := 1) g16 rfl ?_
        walk_at "rd"
        exact ⟨((D1e.trans D15).trans D16').put tl0 nt, _, _, rfl, upd_same, by rw [app_len, app_len]; omega, okz_app (okz_app x1 (okz_one (c := 120) (by decide))) x3⟩
      · walk_at "rd"
        exact ⟨D1e.trans D15, _, z2, rfl, g15, by omega, o2⟩
    obtain ⟨D15, y8, z3, rfl, g15, z3l, z3o⟩ := hM
    walk_at "rd"
    refine r_ixL (sqL g15) (atI_nat (j := 0) rfl) ?_
    walk_at "rd"
    refine ⟨z1, wd, hi, false, _, _, rfl, .inr T.du_screen_of_picks, .inr T.du_screen_of_folds, by omega, o1, by omega, by omega, by omega, fun v16 A16 H16 e16 hA16 al16 wA16 => ?_⟩
    have D16'' := D15.then e16
    walk_at "rd"
    refine r_ixL (sqL (e16 _ _ g15)) (atI_nat (j := 1) rfl) ?_
    walk_at "rd"
    refine ⟨p, d, 2, rfl, D16''.st, by decide, fun c H17 c0 c1 D17' => ?_⟩
    have hA17 := imm (R := ScV K) (pool_tk D16''.st D17') hA16
    walk_at "rd"
    refine ⟨z3, wd, hi, _, _, _, rfl, .inr T.du_screen_of_picks, .inr T.du_screen_of_folds, z3l, z3o, by omega, by omega, by omega, fun v18 A18 H18 e18 hA18 al18 wA18 => ?_⟩
    have D1f := (D16''.trans D17').then e18
    have hA18' := imm (R := ScV K) (.ex e18) hA17
    walk_at "rd"
    refine ⟨p, d, v16, v18, A16, A18, wd, rfl, D1f.st, hA18', hA18, by omega, wA16, wA18, by omega, by omega, by omega, by omega, by rw [al16]; exact wh, fun H19 D19 => ?_⟩
    have t19 := pool_tk D1f.st D19
    walk_at "rd"
    refine ⟨p, d, v18, v16, A18, A16, wd, rfl, D19.st, imm (R := ScV K) t19 hA18, imm (R := ScV K) t19 hA18', by omega, wA18, wA16, by omega, by omega, by omega, by omega, by rw [al18]; exact wh, fun H20 D20 => ?_⟩
    walk_at "rd"
    exact q _
end
theorem all_mk {l : PySem.W.OpenLaw} {w : World} {K : PySem.W.Frag} {h : Heap} {mg : Str → Option Value} {fa : Addr} (X : K.In h) (G : h.Ns mainGlobals mg) (hfa : mg "law" = some (.ref fa))
    {tkd_screen_of_top : Tok}
    {dv_screen_of_folds : Addr} {dvd_screen_of_folds : Option Addr} {dvn_screen_of_folds : Nat} {dvs_screen_of_folds : Array (Option Value)}
    {dv_screen_of_picks : Addr} {dvd_screen_of_picks : Option Addr} {dvn_screen_of_picks : Nat} {dvs_screen_of_picks : Array (Option Value)}
    {f_row_paints : Addr} {od_row_paints an_row_paints : Option Addr} {sl_row_paints : Array (Option Value)} {oc_row_paints kV_row_paints dc_row_paints pm_row_paints cd_row_paints ct_row_paints : Value}
    {f_paints : Addr} {od_paints an_paints : Option Addr} {sl_paints : Array (Option Value)} {oc_paints kV_paints dc_paints pm_paints cd_paints ct_paints : Value}
    {f_painted : Addr} {od_painted an_painted : Option Addr} {sl_painted : Array (Option Value)} {oc_painted kV_painted dc_painted pm_painted cd_painted ct_painted : Value}
    {f_piece_end : Addr} {od_piece_end an_piece_end : Option Addr} {sl_piece_end : Array (Option Value)} {oc_piece_end kV_piece_end dc_piece_end pm_piece_end cd_piece_end ct_piece_end : Value}
    {f_laid : Addr} {od_laid an_laid : Option Addr} {sl_laid : Array (Option Value)} {oc_laid kV_laid dc_laid pm_laid cd_laid ct_laid : Value}
    {f_rows_of : Addr} {od_rows_of an_rows_of : Option Addr} {sl_rows_of : Array (Option Value)} {oc_rows_of kV_rows_of dc_rows_of pm_rows_of cd_rows_of ct_rows_of : Value}
    {f_spot_of : Addr} {od_spot_of an_spot_of : Option Addr} {sl_spot_of : Array (Option Value)} {oc_spot_of kV_spot_of dc_spot_of pm_spot_of cd_spot_of ct_spot_of : Value}
    {f_row_bounds : Addr} {od_row_bounds an_row_bounds : Option Addr} {sl_row_bounds : Array (Option Value)} {oc_row_bounds kV_row_bounds dc_row_bounds pm_row_bounds cd_row_bounds ct_row_bounds : Value}
    {f_row_at : Addr} {od_row_at an_row_at : Option Addr} {sl_row_at : Array (Option Value)} {oc_row_at kV_row_at dc_row_at pm_row_at cd_row_at ct_row_at : Value}
    {f_place_in : Addr} {od_place_in an_place_in : Option Addr} {sl_place_in : Array (Option Value)} {oc_place_in kV_place_in dc_place_in pm_place_in cd_place_in ct_place_in : Value}
    {f_top_row : Addr} {od_top_row an_top_row : Option Addr} {sl_top_row : Array (Option Value)} {oc_top_row kV_top_row dc_top_row pm_top_row cd_top_row ct_top_row : Value}
    {f_low_high : Addr} {od_low_high an_low_high : Option Addr} {sl_low_high : Array (Option Value)} {oc_low_high kV_low_high dc_low_high pm_low_high cd_low_high ct_low_high : Value}
    {f_joined_stretches : Addr} {od_joined_stretches an_joined_stretches : Option Addr} {sl_joined_stretches : Array (Option Value)} {oc_joined_stretches kV_joined_stretches dc_joined_stretches pm_joined_stretches cd_joined_stretches ct_joined_stretches : Value}
    {f_lines_hidden : Addr} {od_lines_hidden an_lines_hidden : Option Addr} {sl_lines_hidden : Array (Option Value)} {oc_lines_hidden kV_lines_hidden dc_lines_hidden pm_lines_hidden cd_lines_hidden ct_lines_hidden : Value}
    {f_selected_flags : Addr} {od_selected_flags an_selected_flags : Option Addr} {sl_selected_flags : Array (Option Value)} {oc_selected_flags kV_selected_flags dc_selected_flags pm_selected_flags cd_selected_flags ct_selected_flags : Value}
    {f_tiled : Addr} {od_tiled an_tiled : Option Addr} {sl_tiled : Array (Option Value)} {oc_tiled kV_tiled dc_tiled pm_tiled cd_tiled ct_tiled : Value}
    {f_screen_of : Addr} {od_screen_of an_screen_of : Option Addr} {sl_screen_of : Array (Option Value)} {oc_screen_of dc_screen_of pm_screen_of cd_screen_of ct_screen_of : Value}
    {kD_screen_of : Addr}
    {f_law_pool : Addr} {od_law_pool an_law_pool : Option Addr} {sl_law_pool : Array (Option Value)} {oc_law_pool kV_law_pool dc_law_pool pm_law_pool cd_law_pool ct_law_pool : Value}
    {f_law_next : Addr} {od_law_next an_law_next : Option Addr} {sl_law_next : Array (Option Value)} {oc_law_next kV_law_next dc_law_next pm_law_next cd_law_next ct_law_next : Value}
    {f_law_signs : Addr} {od_law_signs an_law_signs : Option Addr} {sl_law_signs : Array (Option Value)} {oc_law_signs kV_law_signs dc_law_signs pm_law_signs cd_law_signs ct_law_signs : Value}
    {f_law_same : Addr} {od_law_same an_law_same : Option Addr} {sl_law_same : Array (Option Value)} {oc_law_same kV_law_same dc_law_same pm_law_same cd_law_same ct_law_same : Value}
    {f_law_tile : Addr} {od_law_tile an_law_tile : Option Addr} {sl_law_tile : Array (Option Value)} {oc_law_tile kV_law_tile dc_law_tile pm_law_tile cd_law_tile ct_law_tile : Value}
    {f_law_near : Addr} {od_law_near an_law_near : Option Addr} {sl_law_near : Array (Option Value)} {oc_law_near kV_law_near dc_law_near pm_law_near cd_law_near ct_law_near : Value}
    {f_law_screen : Addr} {od_law_screen an_law_screen : Option Addr} {sl_law_screen : Array (Option Value)} {oc_law_screen kV_law_screen dc_law_screen pm_law_screen cd_law_screen ct_law_screen : Value}
    {f_law_turned : Addr} {od_law_turned an_law_turned : Option Addr} {sl_law_turned : Array (Option Value)} {oc_law_turned kV_law_turned dc_law_turned pm_law_turned cd_law_turned ct_law_turned : Value}
    {f_law_due : Addr} {od_law_due an_law_due : Option Addr} {sl_law_due : Array (Option Value)} {oc_law_due kV_law_due dc_law_due pm_law_due cd_law_due ct_law_due : Value}
    {f_law_spread : Addr} {od_law_spread an_law_spread : Option Addr} {sl_law_spread : Array (Option Value)} {oc_law_spread kV_law_spread dc_law_spread pm_law_spread cd_law_spread ct_law_spread : Value}
    {f_law_strokes : Addr} {od_law_strokes an_law_strokes : Option Addr} {sl_law_strokes : Array (Option Value)} {oc_law_strokes kV_law_strokes dc_law_strokes pm_law_strokes cd_law_strokes ct_law_strokes : Value}
    {f_law_pair : Addr} {od_law_pair an_law_pair : Option Addr} {sl_law_pair : Array (Option Value)} {oc_law_pair kV_law_pair dc_law_pair pm_law_pair cd_law_pair ct_law_pair : Value}
    {f_law_text : Addr} {od_law_text an_law_text : Option Addr} {sl_law_text : Array (Option Value)} {oc_law_text kV_law_text dc_law_text pm_law_text cd_law_text ct_law_text : Value}
    {f_law : Addr} {od_law an_law : Option Addr} {sl_law : Array (Option Value)} {oc_law kV_law dc_law pm_law cd_law ct_law : Value}
    {C_Layout : Addr}
    {f_Layout_init : Addr} {od_Layout_init an_Layout_init : Option Addr} {sl_Layout_init : Array (Option Value)} {oc_Layout_init kV_Layout_init dc_Layout_init pm_Layout_init cd_Layout_init ct_Layout_init : Value}
    {f_Layout_refresh : Addr} {od_Layout_refresh an_Layout_refresh : Option Addr} {sl_Layout_refresh : Array (Option Value)} {oc_Layout_refresh kV_Layout_refresh dc_Layout_refresh pm_Layout_refresh cd_Layout_refresh ct_Layout_refresh : Value}
    {f_Layout_screen_rows : Addr} {od_Layout_screen_rows an_Layout_screen_rows : Option Addr} {sl_Layout_screen_rows : Array (Option Value)} {oc_Layout_screen_rows kV_Layout_screen_rows dc_Layout_screen_rows pm_Layout_screen_rows cd_Layout_screen_rows ct_Layout_screen_rows : Value}
    {C_Tiler : Addr}
    {f_Tiler_init : Addr} {od_Tiler_init an_Tiler_init : Option Addr} {sl_Tiler_init : Array (Option Value)} {oc_Tiler_init kV_Tiler_init dc_Tiler_init pm_Tiler_init cd_Tiler_init ct_Tiler_init : Value}
    {f_Tiler_index_at : Addr} {od_Tiler_index_at an_Tiler_index_at : Option Addr} {sl_Tiler_index_at : Array (Option Value)} {oc_Tiler_index_at kV_Tiler_index_at dc_Tiler_index_at pm_Tiler_index_at cd_Tiler_index_at ct_Tiler_index_at : Value}
    {f_Tiler_tile_at : Addr} {od_Tiler_tile_at an_Tiler_tile_at : Option Addr} {sl_Tiler_tile_at : Array (Option Value)} {oc_Tiler_tile_at kV_Tiler_tile_at dc_Tiler_tile_at pm_Tiler_tile_at cd_Tiler_tile_at ct_Tiler_tile_at : Value}
    {f_Tiler_is_above_fold : Addr} {od_Tiler_is_above_fold an_Tiler_is_above_fold : Option Addr} {sl_Tiler_is_above_fold : Array (Option Value)} {oc_Tiler_is_above_fold kV_Tiler_is_above_fold dc_Tiler_is_above_fold pm_Tiler_is_above_fold cd_Tiler_is_above_fold ct_Tiler_is_above_fold : Value}
    {f_Tiler_colours_of : Addr} {od_Tiler_colours_of an_Tiler_colours_of : Option Addr} {sl_Tiler_colours_of : Array (Option Value)} {oc_Tiler_colours_of kV_Tiler_colours_of dc_Tiler_colours_of pm_Tiler_colours_of cd_Tiler_colours_of ct_Tiler_colours_of : Value}
    {f_Tiler_tiles : Addr} {od_Tiler_tiles an_Tiler_tiles : Option Addr} {sl_Tiler_tiles : Array (Option Value)} {oc_Tiler_tiles kV_Tiler_tiles dc_Tiler_tiles pm_Tiler_tiles cd_Tiler_tiles ct_Tiler_tiles : Value}
    {C_BadPlace fi_BadPlace N_BadPlace : Addr} {nm_BadPlace qn_BadPlace : Str} {bs_BadPlace su_BadPlace : List Value} {sn_BadPlace : List Str} {ab_BadPlace : Bool} {col_BadPlace : Option Bool} {dd_BadPlace : Option Addr} {m0_BadPlace m1_BadPlace m2_BadPlace m3_BadPlace m5_BadPlace : Option Value}
    {od_BadPlace an_BadPlace : Option Addr} {sl_BadPlace : Array (Option Value)} {oc_BadPlace kV_BadPlace dc_BadPlace pm_BadPlace cd_BadPlace ct_BadPlace : Value}
    {B_BadPlace_DeskError : Addr}
    {tk_SELECTED : Tok}
    {tk_HEAD_HERE : Tok}
    {tk_FOLD_BELOW : Tok}
    
    {h_EMPTY_TILE : Addr} {hd_EMPTY_TILE : Option Addr} {hn_EMPTY_TILE : Nat} {hs_EMPTY_TILE : Array (Option Value)}
    {ht_EMPTY_TILE_0 : Tok}
    {ht_EMPTY_TILE_1 : Tok}
    {ht_EMPTY_TILE_2 : Tok}
    {tk_ALPHABET : Tok}
    (aC_Layout : PySem.W.nsIn K mainGlobals "Layout" = some (some (.ref C_Layout)))
    (aC_Tiler : PySem.W.nsIn K mainGlobals "Tiler" = some (some (.ref C_Tiler)))
    (aC_BadPlace : PySem.W.nsIn K mainGlobals "BadPlace" = some (some (.ref C_BadPlace)))
    (a_row_paints : PySem.W.nsIn K mainGlobals "row_paints" = some (some (.ref f_row_paints)))
    (l_row_paints : K.lookup f_row_paints = some ⟨oc_row_paints, od_row_paints, .func (PySem.W.fnOf "row_paints" "row_paints" (defArgs s_row_paints) (defBody s_row_paints) (defScope s_row_paints) .none kV_row_paints dc_row_paints pm_row_paints an_row_paints cd_row_paints ct_row_paints), sl_row_paints⟩)
    (c_row_paints : PySem.W.codeIn K cd_row_paints "row_paints" = true)
    (k_row_paints : PySem.W.keepIn K (.ref f_row_paints) = true)
    (a_paints : PySem.W.nsIn K mainGlobals "paints" = some (some (.ref f_paints)))
    (l_paints : K.lookup f_paints = some ⟨oc_paints, od_paints, .func (PySem.W.fnOf "paints" "paints" (defArgs s_paints) (defBody s_paints) (defScope s_paints) .none kV_paints dc_paints pm_paints an_paints cd_paints ct_paints), sl_paints⟩)
    (c_paints : PySem.W.codeIn K cd_paints "paints" = true)
    (k_paints : PySem.W.keepIn K (.ref f_paints) = true)
    (a_painted : PySem.W.nsIn K mainGlobals "painted" = some (some (.ref f_painted)))
    (l_painted : K.lookup f_painted = some ⟨oc_painted, od_painted, .func (PySem.W.fnOf "painted" "painted" (defArgs s_painted) (defBody s_painted) (defScope s_painted) .none kV_painted dc_painted pm_painted an_painted cd_painted ct_painted), sl_painted⟩)
    (c_painted : PySem.W.codeIn K cd_painted "painted" = true)
    (k_painted : PySem.W.keepIn K (.ref f_painted) = true)
    (a_piece_end : PySem.W.nsIn K mainGlobals "piece_end" = some (some (.ref f_piece_end)))
    (l_piece_end : K.lookup f_piece_end = some ⟨oc_piece_end, od_piece_end, .func (PySem.W.fnOf "piece_end" "piece_end" (defArgs s_piece_end) (defBody s_piece_end) (defScope s_piece_end) .none kV_piece_end dc_piece_end pm_piece_end an_piece_end cd_piece_end ct_piece_end), sl_piece_end⟩)
    (c_piece_end : PySem.W.codeIn K cd_piece_end "piece_end" = true)
    (k_piece_end : PySem.W.keepIn K (.ref f_piece_end) = true)
    (a_laid : PySem.W.nsIn K mainGlobals "laid" = some (some (.ref f_laid)))
    (l_laid : K.lookup f_laid = some ⟨oc_laid, od_laid, .func (PySem.W.fnOf "laid" "laid" (defArgs s_laid) (defBody s_laid) (defScope s_laid) .none kV_laid dc_laid pm_laid an_laid cd_laid ct_laid), sl_laid⟩)
    (c_laid : PySem.W.codeIn K cd_laid "laid" = true)
    (k_laid : PySem.W.keepIn K (.ref f_laid) = true)
    (a_rows_of : PySem.W.nsIn K mainGlobals "rows_of" = some (some (.ref f_rows_of)))
    (l_rows_of : K.lookup f_rows_of = some ⟨oc_rows_of, od_rows_of, .func (PySem.W.fnOf "rows_of" "rows_of" (defArgs s_rows_of) (defBody s_rows_of) (defScope s_rows_of) .none kV_rows_of dc_rows_of pm_rows_of an_rows_of cd_rows_of ct_rows_of), sl_rows_of⟩)
    (c_rows_of : PySem.W.codeIn K cd_rows_of "rows_of" = true)
    (k_rows_of : PySem.W.keepIn K (.ref f_rows_of) = true)
    (a_spot_of : PySem.W.nsIn K mainGlobals "spot_of" = some (some (.ref f_spot_of)))
    (l_spot_of : K.lookup f_spot_of = some ⟨oc_spot_of, od_spot_of, .func (PySem.W.fnOf "spot_of" "spot_of" (defArgs s_spot_of) (defBody s_spot_of) (defScope s_spot_of) .none kV_spot_of dc_spot_of pm_spot_of an_spot_of cd_spot_of ct_spot_of), sl_spot_of⟩)
    (c_spot_of : PySem.W.codeIn K cd_spot_of "spot_of" = true)
    (k_spot_of : PySem.W.keepIn K (.ref f_spot_of) = true)
    (a_row_bounds : PySem.W.nsIn K mainGlobals "row_bounds" = some (some (.ref f_row_bounds)))
    (l_row_bounds : K.lookup f_row_bounds = some ⟨oc_row_bounds, od_row_bounds, .func (PySem.W.fnOf "row_bounds" "row_bounds" (defArgs s_row_bounds) (defBody s_row_bounds) (defScope s_row_bounds) .none kV_row_bounds dc_row_bounds pm_row_bounds an_row_bounds cd_row_bounds ct_row_bounds), sl_row_bounds⟩)
    (c_row_bounds : PySem.W.codeIn K cd_row_bounds "row_bounds" = true)
    (k_row_bounds : PySem.W.keepIn K (.ref f_row_bounds) = true)
    (a_row_at : PySem.W.nsIn K mainGlobals "row_at" = some (some (.ref f_row_at)))
    (l_row_at : K.lookup f_row_at = some ⟨oc_row_at, od_row_at, .func (PySem.W.fnOf "row_at" "row_at" (defArgs s_row_at) (defBody s_row_at) (defScope s_row_at) .none kV_row_at dc_row_at pm_row_at an_row_at cd_row_at ct_row_at), sl_row_at⟩)
    (c_row_at : PySem.W.codeIn K cd_row_at "row_at" = true)
    (k_row_at : PySem.W.keepIn K (.ref f_row_at) = true)
    (a_place_in : PySem.W.nsIn K mainGlobals "place_in" = some (some (.ref f_place_in)))
    (l_place_in : K.lookup f_place_in = some ⟨oc_place_in, od_place_in, .func (PySem.W.fnOf "place_in" "place_in" (defArgs s_place_in) (defBody s_place_in) (defScope s_place_in) .none kV_place_in dc_place_in pm_place_in an_place_in cd_place_in ct_place_in), sl_place_in⟩)
    (c_place_in : PySem.W.codeIn K cd_place_in "place_in" = true)
    (k_place_in : PySem.W.keepIn K (.ref f_place_in) = true)
    (a_top_row : PySem.W.nsIn K mainGlobals "top_row" = some (some (.ref f_top_row)))
    (l_top_row : K.lookup f_top_row = some ⟨oc_top_row, od_top_row, .func (PySem.W.fnOf "top_row" "top_row" (defArgs s_top_row) (defBody s_top_row) (defScope s_top_row) .none kV_top_row dc_top_row pm_top_row an_top_row cd_top_row ct_top_row), sl_top_row⟩)
    (c_top_row : PySem.W.codeIn K cd_top_row "top_row" = true)
    (k_top_row : PySem.W.keepIn K (.ref f_top_row) = true)
    (a_low_high : PySem.W.nsIn K mainGlobals "low_high" = some (some (.ref f_low_high)))
    (l_low_high : K.lookup f_low_high = some ⟨oc_low_high, od_low_high, .func (PySem.W.fnOf "low_high" "low_high" (defArgs s_low_high) (defBody s_low_high) (defScope s_low_high) .none kV_low_high dc_low_high pm_low_high an_low_high cd_low_high ct_low_high), sl_low_high⟩)
    (c_low_high : PySem.W.codeIn K cd_low_high "low_high" = true)
    (k_low_high : PySem.W.keepIn K (.ref f_low_high) = true)
    (a_joined_stretches : PySem.W.nsIn K mainGlobals "joined_stretches" = some (some (.ref f_joined_stretches)))
    (l_joined_stretches : K.lookup f_joined_stretches = some ⟨oc_joined_stretches, od_joined_stretches, .func (PySem.W.fnOf "joined_stretches" "joined_stretches" (defArgs s_joined_stretches) (defBody s_joined_stretches) (defScope s_joined_stretches) .none kV_joined_stretches dc_joined_stretches pm_joined_stretches an_joined_stretches cd_joined_stretches ct_joined_stretches), sl_joined_stretches⟩)
    (c_joined_stretches : PySem.W.codeIn K cd_joined_stretches "joined_stretches" = true)
    (k_joined_stretches : PySem.W.keepIn K (.ref f_joined_stretches) = true)
    (a_lines_hidden : PySem.W.nsIn K mainGlobals "lines_hidden" = some (some (.ref f_lines_hidden)))
    (l_lines_hidden : K.lookup f_lines_hidden = some ⟨oc_lines_hidden, od_lines_hidden, .func (PySem.W.fnOf "lines_hidden" "lines_hidden" (defArgs s_lines_hidden) (defBody s_lines_hidden) (defScope s_lines_hidden) .none kV_lines_hidden dc_lines_hidden pm_lines_hidden an_lines_hidden cd_lines_hidden ct_lines_hidden), sl_lines_hidden⟩)
    (c_lines_hidden : PySem.W.codeIn K cd_lines_hidden "lines_hidden" = true)
    (k_lines_hidden : PySem.W.keepIn K (.ref f_lines_hidden) = true)
    (a_selected_flags : PySem.W.nsIn K mainGlobals "selected_flags" = some (some (.ref f_selected_flags)))
    (l_selected_flags : K.lookup f_selected_flags = some ⟨oc_selected_flags, od_selected_flags, .func (PySem.W.fnOf "selected_flags" "selected_flags" (defArgs s_selected_flags) (defBody s_selected_flags) (defScope s_selected_flags) .none kV_selected_flags dc_selected_flags pm_selected_flags an_selected_flags cd_selected_flags ct_selected_flags), sl_selected_flags⟩)
    (c_selected_flags : PySem.W.codeIn K cd_selected_flags "selected_flags" = true)
    (k_selected_flags : PySem.W.keepIn K (.ref f_selected_flags) = true)
    (a_tiled : PySem.W.nsIn K mainGlobals "tiled" = some (some (.ref f_tiled)))
    (l_tiled : K.lookup f_tiled = some ⟨oc_tiled, od_tiled, .func (PySem.W.fnOf "tiled" "tiled" (defArgs s_tiled) (defBody s_tiled) (defScope s_tiled) .none kV_tiled dc_tiled pm_tiled an_tiled cd_tiled ct_tiled), sl_tiled⟩)
    (c_tiled : PySem.W.codeIn K cd_tiled "tiled" = true)
    (k_tiled : PySem.W.keepIn K (.ref f_tiled) = true)
    (a_screen_of : PySem.W.nsIn K mainGlobals "screen_of" = some (some (.ref f_screen_of)))
    (l_screen_of : K.lookup f_screen_of = some ⟨oc_screen_of, od_screen_of, .func (PySem.W.fnOf "screen_of" "screen_of" (defArgs s_screen_of) (defBody s_screen_of) (defScope s_screen_of) .none (.ref kD_screen_of) dc_screen_of pm_screen_of an_screen_of cd_screen_of ct_screen_of), sl_screen_of⟩)
    (kd_screen_of_wordwise : PySem.W.nsIn K kD_screen_of "wordwise" = some (some (.bool false)))
    (kd_screen_of_book : PySem.W.nsIn K kD_screen_of "book" = some (some (.none)))
    (kd_screen_of_picks : PySem.W.nsIn K kD_screen_of "picks" = some (some (.ref dv_screen_of_picks)))
    (kd_screen_of_folds : PySem.W.nsIn K kD_screen_of "folds" = some (some (.ref dv_screen_of_folds)))
    (kd_screen_of_top : PySem.W.nsIn K kD_screen_of "top" = some (some (.int 0 tkd_screen_of_top)))
    (c_screen_of : PySem.W.codeIn K cd_screen_of "screen_of" = true)
    (k_screen_of : PySem.W.keepIn K (.ref f_screen_of) = true)
    (a_law_pool : PySem.W.nsIn K mainGlobals "_law_pool" = some (some (.ref f_law_pool)))
    (l_law_pool : K.lookup f_law_pool = some ⟨oc_law_pool, od_law_pool, .func (PySem.W.fnOf "_law_pool" "_law_pool" (defArgs s_law_pool) (defBody s_law_pool) (defScope s_law_pool) .none kV_law_pool dc_law_pool pm_law_pool an_law_pool cd_law_pool ct_law_pool), sl_law_pool⟩)
    (c_law_pool : PySem.W.codeIn K cd_law_pool "_law_pool" = true)
    (k_law_pool : PySem.W.keepIn K (.ref f_law_pool) = true)
    (a_law_next : PySem.W.nsIn K mainGlobals "_law_next" = some (some (.ref f_law_next)))
    (l_law_next : K.lookup f_law_next = some ⟨oc_law_next, od_law_next, .func (PySem.W.fnOf "_law_next" "_law_next" (defArgs s_law_next) (defBody s_law_next) (defScope s_law_next) .none kV_law_next dc_law_next pm_law_next an_law_next cd_law_next ct_law_next), sl_law_next⟩)
    (c_law_next : PySem.W.codeIn K cd_law_next "_law_next" = true)
    (k_law_next : PySem.W.keepIn K (.ref f_law_next) = true)
    (a_law_signs : PySem.W.nsIn K mainGlobals "_law_signs" = some (some (.ref f_law_signs)))
    (l_law_signs : K.lookup f_law_signs = some ⟨oc_law_signs, od_law_signs, .func (PySem.W.fnOf "_law_signs" "_law_signs" (defArgs s_law_signs) (defBody s_law_signs) (defScope s_law_signs) .none kV_law_signs dc_law_signs pm_law_signs an_law_signs cd_law_signs ct_law_signs), sl_law_signs⟩)
    (c_law_signs : PySem.W.codeIn K cd_law_signs "_law_signs" = true)
    (k_law_signs : PySem.W.keepIn K (.ref f_law_signs) = true)
    (a_law_same : PySem.W.nsIn K mainGlobals "_law_same" = some (some (.ref f_law_same)))
    (l_law_same : K.lookup f_law_same = some ⟨oc_law_same, od_law_same, .func (PySem.W.fnOf "_law_same" "_law_same" (defArgs s_law_same) (defBody s_law_same) (defScope s_law_same) .none kV_law_same dc_law_same pm_law_same an_law_same cd_law_same ct_law_same), sl_law_same⟩)
    (c_law_same : PySem.W.codeIn K cd_law_same "_law_same" = true)
    (k_law_same : PySem.W.keepIn K (.ref f_law_same) = true)
    (a_law_tile : PySem.W.nsIn K mainGlobals "_law_tile" = some (some (.ref f_law_tile)))
    (l_law_tile : K.lookup f_law_tile = some ⟨oc_law_tile, od_law_tile, .func (PySem.W.fnOf "_law_tile" "_law_tile" (defArgs s_law_tile) (defBody s_law_tile) (defScope s_law_tile) .none kV_law_tile dc_law_tile pm_law_tile an_law_tile cd_law_tile ct_law_tile), sl_law_tile⟩)
    (c_law_tile : PySem.W.codeIn K cd_law_tile "_law_tile" = true)
    (k_law_tile : PySem.W.keepIn K (.ref f_law_tile) = true)
    (a_law_near : PySem.W.nsIn K mainGlobals "_law_near" = some (some (.ref f_law_near)))
    (l_law_near : K.lookup f_law_near = some ⟨oc_law_near, od_law_near, .func (PySem.W.fnOf "_law_near" "_law_near" (defArgs s_law_near) (defBody s_law_near) (defScope s_law_near) .none kV_law_near dc_law_near pm_law_near an_law_near cd_law_near ct_law_near), sl_law_near⟩)
    (c_law_near : PySem.W.codeIn K cd_law_near "_law_near" = true)
    (k_law_near : PySem.W.keepIn K (.ref f_law_near) = true)
    (a_law_screen : PySem.W.nsIn K mainGlobals "_law_screen" = some (some (.ref f_law_screen)))
    (l_law_screen : K.lookup f_law_screen = some ⟨oc_law_screen, od_law_screen, .func (PySem.W.fnOf "_law_screen" "_law_screen" (defArgs s_law_screen) (defBody s_law_screen) (defScope s_law_screen) .none kV_law_screen dc_law_screen pm_law_screen an_law_screen cd_law_screen ct_law_screen), sl_law_screen⟩)
    (c_law_screen : PySem.W.codeIn K cd_law_screen "_law_screen" = true)
    (k_law_screen : PySem.W.keepIn K (.ref f_law_screen) = true)
    (a_law_turned : PySem.W.nsIn K mainGlobals "_law_turned" = some (some (.ref f_law_turned)))
    (l_law_turned : K.lookup f_law_turned = some ⟨oc_law_turned, od_law_turned, .func (PySem.W.fnOf "_law_turned" "_law_turned" (defArgs s_law_turned) (defBody s_law_turned) (defScope s_law_turned) .none kV_law_turned dc_law_turned pm_law_turned an_law_turned cd_law_turned ct_law_turned), sl_law_turned⟩)
    (c_law_turned : PySem.W.codeIn K cd_law_turned "_law_turned" = true)
    (k_law_turned : PySem.W.keepIn K (.ref f_law_turned) = true)
    (a_law_due : PySem.W.nsIn K mainGlobals "_law_due" = some (some (.ref f_law_due)))
    (l_law_due : K.lookup f_law_due = some ⟨oc_law_due, od_law_due, .func (PySem.W.fnOf "_law_due" "_law_due" (defArgs s_law_due) (defBody s_law_due) (defScope s_law_due) .none kV_law_due dc_law_due pm_law_due an_law_due cd_law_due ct_law_due), sl_law_due⟩)
    (c_law_due : PySem.W.codeIn K cd_law_due "_law_due" = true)
    (k_law_due : PySem.W.keepIn K (.ref f_law_due) = true)
    (a_law_spread : PySem.W.nsIn K mainGlobals "_law_spread" = some (some (.ref f_law_spread)))
    (l_law_spread : K.lookup f_law_spread = some ⟨oc_law_spread, od_law_spread, .func (PySem.W.fnOf "_law_spread" "_law_spread" (defArgs s_law_spread) (defBody s_law_spread) (defScope s_law_spread) .none kV_law_spread dc_law_spread pm_law_spread an_law_spread cd_law_spread ct_law_spread), sl_law_spread⟩)
    (c_law_spread : PySem.W.codeIn K cd_law_spread "_law_spread" = true)
    (k_law_spread : PySem.W.keepIn K (.ref f_law_spread) = true)
    (a_law_strokes : PySem.W.nsIn K mainGlobals "_law_strokes" = some (some (.ref f_law_strokes)))
    (l_law_strokes : K.lookup f_law_strokes = some ⟨oc_law_strokes, od_law_strokes, .func (PySem.W.fnOf "_law_strokes" "_law_strokes" (defArgs s_law_strokes) (defBody s_law_strokes) (defScope s_law_strokes) .none kV_law_strokes dc_law_strokes pm_law_strokes an_law_strokes cd_law_strokes ct_law_strokes), sl_law_strokes⟩)
    (c_law_strokes : PySem.W.codeIn K cd_law_strokes "_law_strokes" = true)
    (k_law_strokes : PySem.W.keepIn K (.ref f_law_strokes) = true)
    (a_law_pair : PySem.W.nsIn K mainGlobals "_law_pair" = some (some (.ref f_law_pair)))
    (l_law_pair : K.lookup f_law_pair = some ⟨oc_law_pair, od_law_pair, .func (PySem.W.fnOf "_law_pair" "_law_pair" (defArgs s_law_pair) (defBody s_law_pair) (defScope s_law_pair) .none kV_law_pair dc_law_pair pm_law_pair an_law_pair cd_law_pair ct_law_pair), sl_law_pair⟩)
    (c_law_pair : PySem.W.codeIn K cd_law_pair "_law_pair" = true)
    (k_law_pair : PySem.W.keepIn K (.ref f_law_pair) = true)
    (a_law_text : PySem.W.nsIn K mainGlobals "_law_text" = some (some (.ref f_law_text)))
    (l_law_text : K.lookup f_law_text = some ⟨oc_law_text, od_law_text, .func (PySem.W.fnOf "_law_text" "_law_text" (defArgs s_law_text) (defBody s_law_text) (defScope s_law_text) .none kV_law_text dc_law_text pm_law_text an_law_text cd_law_text ct_law_text), sl_law_text⟩)
    (c_law_text : PySem.W.codeIn K cd_law_text "_law_text" = true)
    (k_law_text : PySem.W.keepIn K (.ref f_law_text) = true)
    (a_law : PySem.W.nsIn K mainGlobals "law" = some (some (.ref f_law)))
    (l_law : K.lookup f_law = some ⟨oc_law, od_law, .func (PySem.W.fnOf "law" "law" (defArgs s_law) (defBody s_law) (defScope s_law) .none kV_law dc_law pm_law an_law cd_law ct_law), sl_law⟩)
    (c_law : PySem.W.codeIn K cd_law "law" = true)
    (k_law : PySem.W.keepIn K (.ref f_law) = true)
    (a_Layout_init : PySem.W.findIn K (.ref C_Layout) "__init__" = some (some (.ref f_Layout_init)))
    (fn_Layout_init : PySem.W.isFn K (.ref f_Layout_init) = true)
    (l_Layout_init : K.lookup f_Layout_init = some ⟨oc_Layout_init, od_Layout_init, .func (PySem.W.fnOf "__init__" "Layout.__init__" (defArgs s_Layout_init) (defBody s_Layout_init) (defScope s_Layout_init) .none kV_Layout_init dc_Layout_init pm_Layout_init an_Layout_init cd_Layout_init ct_Layout_init), sl_Layout_init⟩)
    (c_Layout_init : PySem.W.codeIn K cd_Layout_init "Layout.__init__" = true)
    (k_Layout_init : PySem.W.keepIn K (.ref f_Layout_init) = true)
    (a_Layout_refresh : PySem.W.findIn K (.ref C_Layout) "refresh" = some (some (.ref f_Layout_refresh)))
    (fn_Layout_refresh : PySem.W.isFn K (.ref f_Layout_refresh) = true)
    (l_Layout_refresh : K.lookup f_Layout_refresh = some ⟨oc_Layout_refresh, od_Layout_refresh, .func (PySem.W.fnOf "refresh" "Layout.refresh" (defArgs s_Layout_refresh) (defBody s_Layout_refresh) (defScope s_Layout_refresh) .none kV_Layout_refresh dc_Layout_refresh pm_Layout_refresh an_Layout_refresh cd_Layout_refresh ct_Layout_refresh), sl_Layout_refresh⟩)
    (c_Layout_refresh : PySem.W.codeIn K cd_Layout_refresh "Layout.refresh" = true)
    (k_Layout_refresh : PySem.W.keepIn K (.ref f_Layout_refresh) = true)
    (a_Layout_screen_rows : PySem.W.findIn K (.ref C_Layout) "screen_rows" = some (some (.ref f_Layout_screen_rows)))
    (fn_Layout_screen_rows : PySem.W.isFn K (.ref f_Layout_screen_rows) = true)
    (l_Layout_screen_rows : K.lookup f_Layout_screen_rows = some ⟨oc_Layout_screen_rows, od_Layout_screen_rows, .func (PySem.W.fnOf "screen_rows" "Layout.screen_rows" (defArgs s_Layout_screen_rows) (defBody s_Layout_screen_rows) (defScope s_Layout_screen_rows) .none kV_Layout_screen_rows dc_Layout_screen_rows pm_Layout_screen_rows an_Layout_screen_rows cd_Layout_screen_rows ct_Layout_screen_rows), sl_Layout_screen_rows⟩)
    (c_Layout_screen_rows : PySem.W.codeIn K cd_Layout_screen_rows "Layout.screen_rows" = true)
    (k_Layout_screen_rows : PySem.W.keepIn K (.ref f_Layout_screen_rows) = true)
    (a_Tiler_init : PySem.W.findIn K (.ref C_Tiler) "__init__" = some (some (.ref f_Tiler_init)))
    (fn_Tiler_init : PySem.W.isFn K (.ref f_Tiler_init) = true)
    (l_Tiler_init : K.lookup f_Tiler_init = some ⟨oc_Tiler_init, od_Tiler_init, .func (PySem.W.fnOf "__init__" "Tiler.__init__" (defArgs s_Tiler_init) (defBody s_Tiler_init) (defScope s_Tiler_init) .none kV_Tiler_init dc_Tiler_init pm_Tiler_init an_Tiler_init cd_Tiler_init ct_Tiler_init), sl_Tiler_init⟩)
    (c_Tiler_init : PySem.W.codeIn K cd_Tiler_init "Tiler.__init__" = true)
    (k_Tiler_init : PySem.W.keepIn K (.ref f_Tiler_init) = true)
    (a_Tiler_index_at : PySem.W.findIn K (.ref C_Tiler) "index_at" = some (some (.ref f_Tiler_index_at)))
    (fn_Tiler_index_at : PySem.W.isFn K (.ref f_Tiler_index_at) = true)
    (l_Tiler_index_at : K.lookup f_Tiler_index_at = some ⟨oc_Tiler_index_at, od_Tiler_index_at, .func (PySem.W.fnOf "index_at" "Tiler.index_at" (defArgs s_Tiler_index_at) (defBody s_Tiler_index_at) (defScope s_Tiler_index_at) .none kV_Tiler_index_at dc_Tiler_index_at pm_Tiler_index_at an_Tiler_index_at cd_Tiler_index_at ct_Tiler_index_at), sl_Tiler_index_at⟩)
    (c_Tiler_index_at : PySem.W.codeIn K cd_Tiler_index_at "Tiler.index_at" = true)
    (k_Tiler_index_at : PySem.W.keepIn K (.ref f_Tiler_index_at) = true)
    (a_Tiler_tile_at : PySem.W.findIn K (.ref C_Tiler) "tile_at" = some (some (.ref f_Tiler_tile_at)))
    (fn_Tiler_tile_at : PySem.W.isFn K (.ref f_Tiler_tile_at) = true)
    (l_Tiler_tile_at : K.lookup f_Tiler_tile_at = some ⟨oc_Tiler_tile_at, od_Tiler_tile_at, .func (PySem.W.fnOf "tile_at" "Tiler.tile_at" (defArgs s_Tiler_tile_at) (defBody s_Tiler_tile_at) (defScope s_Tiler_tile_at) .none kV_Tiler_tile_at dc_Tiler_tile_at pm_Tiler_tile_at an_Tiler_tile_at cd_Tiler_tile_at ct_Tiler_tile_at), sl_Tiler_tile_at⟩)
    (c_Tiler_tile_at : PySem.W.codeIn K cd_Tiler_tile_at "Tiler.tile_at" = true)
    (k_Tiler_tile_at : PySem.W.keepIn K (.ref f_Tiler_tile_at) = true)
    (a_Tiler_is_above_fold : PySem.W.findIn K (.ref C_Tiler) "is_above_fold" = some (some (.ref f_Tiler_is_above_fold)))
    (fn_Tiler_is_above_fold : PySem.W.isFn K (.ref f_Tiler_is_above_fold) = true)
    (l_Tiler_is_above_fold : K.lookup f_Tiler_is_above_fold = some ⟨oc_Tiler_is_above_fold, od_Tiler_is_above_fold, .func (PySem.W.fnOf "is_above_fold" "Tiler.is_above_fold" (defArgs s_Tiler_is_above_fold) (defBody s_Tiler_is_above_fold) (defScope s_Tiler_is_above_fold) .none kV_Tiler_is_above_fold dc_Tiler_is_above_fold pm_Tiler_is_above_fold an_Tiler_is_above_fold cd_Tiler_is_above_fold ct_Tiler_is_above_fold), sl_Tiler_is_above_fold⟩)
    (c_Tiler_is_above_fold : PySem.W.codeIn K cd_Tiler_is_above_fold "Tiler.is_above_fold" = true)
    (k_Tiler_is_above_fold : PySem.W.keepIn K (.ref f_Tiler_is_above_fold) = true)
    (a_Tiler_colours_of : PySem.W.findIn K (.ref C_Tiler) "colours_of" = some (some (.ref f_Tiler_colours_of)))
    (fn_Tiler_colours_of : PySem.W.isFn K (.ref f_Tiler_colours_of) = true)
    (l_Tiler_colours_of : K.lookup f_Tiler_colours_of = some ⟨oc_Tiler_colours_of, od_Tiler_colours_of, .func (PySem.W.fnOf "colours_of" "Tiler.colours_of" (defArgs s_Tiler_colours_of) (defBody s_Tiler_colours_of) (defScope s_Tiler_colours_of) .none kV_Tiler_colours_of dc_Tiler_colours_of pm_Tiler_colours_of an_Tiler_colours_of cd_Tiler_colours_of ct_Tiler_colours_of), sl_Tiler_colours_of⟩)
    (c_Tiler_colours_of : PySem.W.codeIn K cd_Tiler_colours_of "Tiler.colours_of" = true)
    (k_Tiler_colours_of : PySem.W.keepIn K (.ref f_Tiler_colours_of) = true)
    (a_Tiler_tiles : PySem.W.findIn K (.ref C_Tiler) "tiles" = some (some (.ref f_Tiler_tiles)))
    (fn_Tiler_tiles : PySem.W.isFn K (.ref f_Tiler_tiles) = true)
    (l_Tiler_tiles : K.lookup f_Tiler_tiles = some ⟨oc_Tiler_tiles, od_Tiler_tiles, .func (PySem.W.fnOf "tiles" "Tiler.tiles" (defArgs s_Tiler_tiles) (defBody s_Tiler_tiles) (defScope s_Tiler_tiles) .none kV_Tiler_tiles dc_Tiler_tiles pm_Tiler_tiles an_Tiler_tiles cd_Tiler_tiles ct_Tiler_tiles), sl_Tiler_tiles⟩)
    (c_Tiler_tiles : PySem.W.codeIn K cd_Tiler_tiles "Tiler.tiles" = true)
    (k_Tiler_tiles : PySem.W.keepIn K (.ref f_Tiler_tiles) = true)
    (dl_screen_of_picks : K.lookup dv_screen_of_picks = some ⟨.type "tuple", dvd_screen_of_picks, .seq #[] dvn_screen_of_picks, dvs_screen_of_picks⟩)
    (dl_screen_of_folds : K.lookup dv_screen_of_folds = some ⟨.type "tuple", dvd_screen_of_folds, .seq #[] dvn_screen_of_folds, dvs_screen_of_folds⟩)
    (pg_Layout : PySem.W.plainGet K C_Layout Str.empty = true)
    (hd_Layout : PySem.W.hasDictIn K C_Layout = true)
    (po_Layout : PySem.W.plainOver K C_Layout = true)
    (sa_Layout : PySem.W.findIn K (.ref C_Layout) "__setattr__" = some (some (.builtin "object.__setattr__")))
    (mk_Layout : PySem.W.makesIn K C_Layout = true)
    (kC_Layout : PySem.W.keepIn K (.ref C_Layout) = true)
    (na_Layout_width : PySem.W.findIn K (.ref C_Layout) "width" = some none)
    (na_Layout_wordwise : PySem.W.findIn K (.ref C_Layout) "wordwise" = some none)
    (na_Layout_known : PySem.W.findIn K (.ref C_Layout) "known" = some none)
    (na_Layout_lines : PySem.W.findIn K (.ref C_Layout) "lines" = some none)
    (pg_Tiler : PySem.W.plainGet K C_Tiler Str.empty = true)
    (hd_Tiler : PySem.W.hasDictIn K C_Tiler = true)
    (po_Tiler : PySem.W.plainOver K C_Tiler = true)
    (sa_Tiler : PySem.W.findIn K (.ref C_Tiler) "__setattr__" = some (some (.builtin "object.__setattr__")))
    (mk_Tiler : PySem.W.makesIn K C_Tiler = true)
    (kC_Tiler : PySem.W.keepIn K (.ref C_Tiler) = true)
    (na_Tiler_letters : PySem.W.findIn K (.ref C_Tiler) "letters" = some none)
    (na_Tiler_rows : PySem.W.findIn K (.ref C_Tiler) "rows" = some none)
    (na_Tiler_tints : PySem.W.findIn K (.ref C_Tiler) "tints" = some none)
    (na_Tiler_width : PySem.W.findIn K (.ref C_Tiler) "width" = some none)
    (na_Tiler_hidden : PySem.W.findIn K (.ref C_Tiler) "hidden" = some none)
    (na_Tiler_laid_rows : PySem.W.findIn K (.ref C_Tiler) "laid_rows" = some none)
    (na_Tiler_stretches : PySem.W.findIn K (.ref C_Tiler) "stretches" = some none)
    (na_Tiler_heads : PySem.W.findIn K (.ref C_Tiler) "heads" = some none)
    (xL_BadPlace : K.lookup C_BadPlace = some (excClassObj nm_BadPlace qn_BadPlace C_BadPlace N_BadPlace bs_BadPlace [.ref B_BadPlace_DeskError, .type "ValueError", .type "Exception", .type "BaseException", .type "object"] true sn_BadPlace su_BadPlace ab_BadPlace col_BadPlace dd_BadPlace m0_BadPlace m1_BadPlace m2_BadPlace m3_BadPlace m5_BadPlace "ValueError.__new__"))
    (sa_BadPlace : PySem.W.findIn K (.ref C_BadPlace) "__setattr__" = some (some (.builtin "object.__setattr__")))
    (ga_BadPlace : PySem.W.findIn K (.ref C_BadPlace) "__getattribute__" = some (some (.builtin "BaseException.__getattribute__")))
    (gg_BadPlace : PySem.W.findIn K (.ref C_BadPlace) "__getattr__" = some none)
    (na_BadPlace_at : PySem.W.findIn K (.ref C_BadPlace) "at" = some none)
    (iC_BadPlace : PySem.W.findIn K (.ref C_BadPlace) "__init__" = some (some (.ref fi_BadPlace)))
    (ti_BadPlace : PySem.W.typeIn K (.ref fi_BadPlace) = some (.type "function"))
    (li_BadPlace : K.lookup fi_BadPlace = some ⟨oc_BadPlace, od_BadPlace, .func (PySem.W.fnOf "__init__" "BadPlace.__init__" (defArgs s_init_BadPlace) (defBody s_init_BadPlace) (defScope s_init_BadPlace) .none kV_BadPlace dc_BadPlace pm_BadPlace an_BadPlace cd_BadPlace ct_BadPlace), sl_BadPlace⟩)
    (ci_BadPlace : PySem.W.codeIn K cd_BadPlace "BadPlace.__init__" = true)
    (ki_BadPlace : PySem.W.keepIn K (.ref fi_BadPlace) = true)
    (kC_BadPlace : PySem.W.keepIn K (.ref C_BadPlace) = true)
    (eC_BadPlace : PySem.W.subIn K (.ref C_BadPlace) (.type "BaseException") = some true)
    (tC_BadPlace : PySem.W.typeIn K (.ref C_BadPlace) = some (.type "type"))
    (hC_BadPlace : PySem.W.hasDictIn K C_BadPlace = true)
    (yC_BadPlace : PySem.W.isClsIn K C_BadPlace = true)
    (sC_BadPlace : PySem.W.subIn K (.ref C_BadPlace) (.ref C_BadPlace) = some true)
    (v_SELECTED : PySem.W.nsIn K mainGlobals "SELECTED" = some (some (.int 1 tk_SELECTED)))
    (v_HEAD_HERE : PySem.W.nsIn K mainGlobals "HEAD_HERE" = some (some (.int 2 tk_HEAD_HERE)))
    (v_FOLD_BELOW : PySem.W.nsIn K mainGlobals "FOLD_BELOW" = some (some (.int 4 tk_FOLD_BELOW)))
    (v_EMPTY_TILE : PySem.W.nsIn K mainGlobals "EMPTY_TILE" = some (some (.ref h_EMPTY_TILE)))
    (hl_EMPTY_TILE : K.lookup h_EMPTY_TILE = some ⟨.type "tuple", hd_EMPTY_TILE, .seq #[.str " " ht_EMPTY_TILE_0, .int 0 ht_EMPTY_TILE_1, .int 0 ht_EMPTY_TILE_2] hn_EMPTY_TILE, hs_EMPTY_TILE⟩)
    (v_ALPHABET : PySem.W.nsIn K mainGlobals "ALPHABET" = some (some (.str "\n !\"#$&'()*+,-./0123456789:;<=>?@ABCDEFGHIJKLMNOPQRSTUVWXYZ[\\]^_`abcdefghijklmnopqrstuvwxyz{|}~" tk_ALPHABET)))
    (z_abs : PySem.W.nsIn K mainGlobals "abs" = some none)
    (z_bool : PySem.W.nsIn K mainGlobals "bool" = some none)
    (z_enumerate : PySem.W.nsIn K mainGlobals "enumerate" = some none)
    (z_int : PySem.W.nsIn K mainGlobals "int" = some none)
    (z_isinstance : PySem.W.nsIn K mainGlobals "isinstance" = some none)
    (z_len : PySem.W.nsIn K mainGlobals "len" = some none)
    (z_list : PySem.W.nsIn K mainGlobals "list" = some none)
    (z_max : PySem.W.nsIn K mainGlobals "max" = some none)
    (z_min : PySem.W.nsIn K mainGlobals "min" = some none)
    (z_range : PySem.W.nsIn K mainGlobals "range" = some none)
    (z_set : PySem.W.nsIn K mainGlobals "set" = some none)
    (z_sorted : PySem.W.nsIn K mainGlobals "sorted" = some none)
    (z_str : PySem.W.nsIn K mainGlobals "str" = some none)
    (z_sum : PySem.W.nsIn K mainGlobals "sum" = some none)
    (z_tuple : PySem.W.nsIn K mainGlobals "tuple" = some none) :
    ∃ fd : FuncData, (∀ (s : Shared) (v : Value), BindsTo s fd ⟨[v], []⟩ [("_law_script", v)]) ∧ ∀ base : Heap, K.In base → base.Ns mainGlobals mg → FnOk l.prog w K mg base CX0 9 fa fd ["_law_script"] (sp_law K) := by
  have e := hfa.symm.trans (PySem.W.mg_of X G a_law)
  cases e
  have F_row_paints := fun_mk (st := s_row_paints) l_row_paints c_row_paints k_row_paints
  have F_paints := fun_mk (st := s_paints) l_paints c_paints k_paints
  have F_painted := fun_mk (st := s_painted) l_painted c_painted k_painted
  have F_piece_end := fun_mk (st := s_piece_end) l_piece_end c_piece_end k_piece_end
  have F_laid := fun_mk (st := s_laid) l_laid c_laid k_laid
  have F_rows_of := fun_mk (st := s_rows_of) l_rows_of c_rows_of k_rows_of
  have F_spot_of := fun_mk (st := s_spot_of) l_spot_of c_spot_of k_spot_of
  have F_row_bounds := fun_mk (st := s_row_bounds) l_row_bounds c_row_bounds k_row_bounds
  have F_row_at := fun_mk (st := s_row_at) l_row_at c_row_at k_row_at
  have F_place_in := fun_mk (st := s_place_in) l_place_in c_place_in k_place_in
  have F_top_row := fun_mk (st := s_top_row) l_top_row c_top_row k_top_row
  have F_low_high := fun_mk (st := s_low_high) l_low_high c_low_high k_low_high
  have F_joined_stretches := fun_mk (st := s_joined_stretches) l_joined_stretches c_joined_stretches k_joined_stretches
  have F_lines_hidden := fun_mk (st := s_lines_hidden) l_lines_hidden c_lines_hidden k_lines_hidden
  have F_selected_flags := fun_mk (st := s_selected_flags) l_selected_flags c_selected_flags k_selected_flags
  have F_tiled := fun_mk (st := s_tiled) l_tiled c_tiled k_tiled
  have F_screen_of := fun_mk (st := s_screen_of) l_screen_of c_screen_of k_screen_of
  have F_law_pool := fun_mk (st := s_law_pool) l_law_pool c_law_pool k_law_pool
  have F_law_next := fun_mk (st := s_law_next) l_law_next c_law_next k_law_next
  have F_law_signs := fun_mk (st := s_law_signs) l_law_signs c_law_signs k_law_signs
  have F_law_same := fun_mk (st := s_law_same) l_law_same c_law_same k_law_same
  have F_law_tile := fun_mk (st := s_law_tile) l_law_tile c_law_tile k_law_tile
  have F_law_near := fun_mk (st := s_law_near) l_law_near c_law_near k_law_near
  have F_law_screen := fun_mk (st := s_law_screen) l_law_screen c_law_screen k_law_screen
  have F_law_turned := fun_mk (st := s_law_turned) l_law_turned c_law_turned k_law_turned
  have F_law_due := fun_mk (st := s_law_due) l_law_due c_law_due k_law_due
  have F_law_spread := fun_mk (st := s_law_spread) l_law_spread c_law_spread k_law_spread
  have F_law_strokes := fun_mk (st := s_law_strokes) l_law_strokes c_law_strokes k_law_strokes
  have F_law_pair := fun_mk (st := s_law_pair) l_law_pair c_law_pair k_law_pair
  have F_law_text := fun_mk (st := s_law_text) l_law_text c_law_text k_law_text
  have F_law := fun_mk (st := s_law) l_law c_law k_law
  have F_Layout_init := fun_mk (st := s_Layout_init) l_Layout_init c_Layout_init k_Layout_init
  have F_Layout_refresh := fun_mk (st := s_Layout_refresh) l_Layout_refresh c_Layout_refresh k_Layout_refresh
  have F_Layout_screen_rows := fun_mk (st := s_Layout_screen_rows) l_Layout_screen_rows c_Layout_screen_rows k_Layout_screen_rows
  have F_Tiler_init := fun_mk (st := s_Tiler_init) l_Tiler_init c_Tiler_init k_Tiler_init
  have F_Tiler_index_at := fun_mk (st := s_Tiler_index_at) l_Tiler_index_at c_Tiler_index_at k_Tiler_index_at
  have F_Tiler_tile_at := fun_mk (st := s_Tiler_tile_at) l_Tiler_tile_at c_Tiler_tile_at k_Tiler_tile_at
  have F_Tiler_is_above_fold := fun_mk (st := s_Tiler_is_above_fold) l_Tiler_is_above_fold c_Tiler_is_above_fold k_Tiler_is_above_fold
  have F_Tiler_colours_of := fun_mk (st := s_Tiler_colours_of) l_Tiler_colours_of c_Tiler_colours_of k_Tiler_colours_of
  have F_Tiler_tiles := fun_mk (st := s_Tiler_tiles) l_Tiler_tiles c_Tiler_tiles k_Tiler_tiles
  have F_BadPlace := fun_mk (st := s_init_BadPlace) li_BadPlace ci_BadPlace ki_BadPlace
  let T : Txt K mg := {
    a_row_paints := _, d_row_paints := _, F_row_paints := F_row_paints, g_row_paints := PySem.W.mg_of X G a_row_paints,
    b_row_paints := F_row_paints.binds (ps := ["row", "old", "new"]) (fun _ _ _ _ _ _ us hl => match us, hl with | [_, _, _], _ => rfl),
    a_paints := _, d_paints := _, F_paints := F_paints, g_paints := PySem.W.mg_of X G a_paints,
    b_paints := F_paints.binds (ps := ["old", "new"]) (fun _ _ _ _ _ _ us hl => match us, hl with | [_, _], _ => rfl),
    a_painted := _, d_painted := _, F_painted := F_painted, g_painted := PySem.W.mg_of X G a_painted,
    b_painted := F_painted.binds (ps := ["old", "runs"]) (fun _ _ _ _ _ _ us hl => match us, hl with | [_, _], _ => rfl),
    a_piece_end := _, d_piece_end := _, F_piece_end := F_piece_end, g_piece_end := PySem.W.mg_of X G a_piece_end,
    b_piece_end := F_piece_end.binds (ps := ["row", "start", "width", "wordwise"]) (fun _ _ _ _ _ _ us hl => match us, hl with | [_, _, _, _], _ => rfl),
    a_laid := _, d_laid := _, F_laid := F_laid, g_laid := PySem.W.mg_of X G a_laid,
    a_rows_of := _, d_rows_of := _, F_rows_of := F_rows_of, g_rows_of := PySem.W.mg_of X G a_rows_of,
    b_rows_of := F_rows_of.binds (ps := ["text"]) (fun _ _ _ _ _ _ us hl => match us, hl with | [_], _ => rfl),
    a_spot_of := _, d_spot_of := _, F_spot_of := F_spot_of, g_spot_of := PySem.W.mg_of X G a_spot_of,
    b_spot_of := F_spot_of.binds (ps := ["text", "place"]) (fun _ _ _ _ _ _ us hl => match us, hl with | [_, _], _ => rfl),
    a_row_bounds := _, d_row_bounds := _, F_row_bounds := F_row_bounds, g_row_bounds := PySem.W.mg_of X G a_row_bounds,
    b_row_bounds := F_row_bounds.binds (ps := ["text", "line"]) (fun _ _ _ _ _ _ us hl => match us, hl with | [_, _], _ => rfl),
    a_row_at := _, d_row_at := _, F_row_at := F_row_at, g_row_at := PySem.W.mg_of X G a_row_at,
    b_row_at := F_row_at.binds (ps := ["screen_rows", "line", "column"]) (fun _ _ _ _ _ _ us hl => match us, hl with | [_, _, _], _ => rfl),
    a_place_in := _, d_place_in := _, F_place_in := F_place_in, g_place_in := PySem.W.mg_of X G a_place_in,
    b_place_in := F_place_in.binds (ps := ["screen_rows", "line", "column", "width"]) (fun _ _ _ _ _ _ us hl => match us, hl with | [_, _, _, _], _ => rfl),
    a_top_row := _, d_top_row := _, F_top_row := F_top_row, g_top_row := PySem.W.mg_of X G a_top_row,
    b_top_row := F_top_row.binds (ps := ["first", "caret", "height"]) (fun _ _ _ _ _ _ us hl => match us, hl with | [_, _, _], _ => rfl),
    a_low_high := _, d_low_high := _, F_low_high := F_low_high, g_low_high := PySem.W.mg_of X G a_low_high,
    b_low_high := F_low_high.binds (ps := ["pick"]) (fun _ _ _ _ _ _ us hl => match us, hl with | [_], _ => rfl),
    a_joined_stretches := _, d_joined_stretches := _, F_joined_stretches := F_joined_stretches, g_joined_stretches := PySem.W.mg_of X G a_joined_stretches,
    b_joined_stretches := F_joined_stretches.binds (ps := ["stretches"]) (fun _ _ _ _ _ _ us hl => match us, hl with | [_], _ => rfl),
    a_lines_hidden := _, d_lines_hidden := _, F_lines_hidden := F_lines_hidden, g_lines_hidden := PySem.W.mg_of X G a_lines_hidden,
    b_lines_hidden := F_lines_hidden.binds (ps := ["text", "folds"]) (fun _ _ _ _ _ _ us hl => match us, hl with | [_, _], _ => rfl),
    a_selected_flags := _, d_selected_flags := _, F_selected_flags := F_selected_flags, g_selected_flags := PySem.W.mg_of X G a_selected_flags,
    b_selected_flags := F_selected_flags.binds (ps := ["begin", "many", "stretches"]) (fun _ _ _ _ _ _ us hl => match us, hl with | [_, _, _], _ => rfl),
    a_tiled := _, d_tiled := _, F_tiled := F_tiled, g_tiled := PySem.W.mg_of X G a_tiled,
    b_tiled := F_tiled.binds (ps := ["text", "height", "tints", "layout", "picks", "folds", "top"]) (fun _ _ _ _ _ _ us hl => match us, hl with | [_, _, _, _, _, _, _], _ => rfl),
    a_screen_of := _, d_screen_of := _, F_screen_of := F_screen_of, g_screen_of := PySem.W.mg_of X G a_screen_of,
    a_law_pool := _, d_law_pool := _, F_law_pool := F_law_pool, g_law_pool := PySem.W.mg_of X G a_law_pool,
    b_law_pool := F_law_pool.binds (ps := ["_law_script"]) (fun _ _ _ _ _ _ us hl => match us, hl with | [_], _ => rfl),
    a_law_next := _, d_law_next := _, F_law_next := F_law_next, g_law_next := PySem.W.mg_of X G a_law_next,
    b_law_next := F_law_next.binds (ps := ["_law_pool_here", "_law_many"]) (fun _ _ _ _ _ _ us hl => match us, hl with | [_, _], _ => rfl),
    a_law_signs := _, d_law_signs := _, F_law_signs := F_law_signs, g_law_signs := PySem.W.mg_of X G a_law_signs,
    b_law_signs := F_law_signs.binds (ps := []) (fun _ _ _ _ _ _ us hl => match us, hl with | [], _ => rfl),
    a_law_same := _, d_law_same := _, F_law_same := F_law_same, g_law_same := PySem.W.mg_of X G a_law_same,
    b_law_same := F_law_same.binds (ps := ["_law_one", "_law_due_here"]) (fun _ _ _ _ _ _ us hl => match us, hl with | [_, _], _ => rfl),
    a_law_tile := _, d_law_tile := _, F_law_tile := F_law_tile, g_law_tile := PySem.W.mg_of X G a_law_tile,
    b_law_tile := F_law_tile.binds (ps := ["_law_pool_here", "_law_sort"]) (fun _ _ _ _ _ _ us hl => match us, hl with | [_, _], _ => rfl),
    a_law_near := _, d_law_near := _, F_law_near := F_law_near, g_law_near := PySem.W.mg_of X G a_law_near,
    b_law_near := F_law_near.binds (ps := ["_law_pool_here", "_law_tile_here"]) (fun _ _ _ _ _ _ us hl => match us, hl with | [_, _], _ => rfl),
    a_law_screen := _, d_law_screen := _, F_law_screen := F_law_screen, g_law_screen := PySem.W.mg_of X G a_law_screen,
    b_law_screen := F_law_screen.binds (ps := ["_law_pool_here", "_law_wide", "_law_high"]) (fun _ _ _ _ _ _ us hl => match us, hl with | [_, _, _], _ => rfl),
    a_law_turned := _, d_law_turned := _, F_law_turned := F_law_turned, g_law_turned := PySem.W.mg_of X G a_law_turned,
    b_law_turned := F_law_turned.binds (ps := ["_law_pool_here", "_law_screen_here"]) (fun _ _ _ _ _ _ us hl => match us, hl with | [_, _], _ => rfl),
    a_law_due := _, d_law_due := _, F_law_due := F_law_due, g_law_due := PySem.W.mg_of X G a_law_due,
    b_law_due := F_law_due.binds (ps := ["_law_one", "_law_other"]) (fun _ _ _ _ _ _ us hl => match us, hl with | [_, _], _ => rfl),
    a_law_spread := _, d_law_spread := _, F_law_spread := F_law_spread, g_law_spread := PySem.W.mg_of X G a_law_spread,
    b_law_spread := F_law_spread.binds (ps := ["_law_screen_here", "_law_strokes_here"]) (fun _ _ _ _ _ _ us hl => match us, hl with | [_, _], _ => rfl),
    a_law_strokes := _, d_law_strokes := _, F_law_strokes := F_law_strokes, g_law_strokes := PySem.W.mg_of X G a_law_strokes,
    b_law_strokes := F_law_strokes.binds (ps := ["_law_pool_here", "_law_screen_here", "_law_other"]) (fun _ _ _ _ _ _ us hl => match us, hl with | [_, _, _], _ => rfl),
    a_law_pair := _, d_law_pair := _, F_law_pair := F_law_pair, g_law_pair := PySem.W.mg_of X G a_law_pair,
    b_law_pair := F_law_pair.binds (ps := ["_law_pool_here", "_law_one", "_law_other"]) (fun _ _ _ _ _ _ us hl => match us, hl with | [_, _, _], _ => rfl),
    a_law_text := _, d_law_text := _, F_law_text := F_law_text, g_law_text := PySem.W.mg_of X G a_law_text,
    b_law_text := F_law_text.binds (ps := ["_law_pool_here"]) (fun _ _ _ _ _ _ us hl => match us, hl with | [_], _ => rfl),
    a_law := _, d_law := _, F_law := F_law, g_law := PySem.W.mg_of X G a_law,
    b_law := F_law.binds (ps := ["_law_script"]) (fun _ _ _ _ _ _ us hl => match us, hl with | [_], _ => rfl),
    a_Layout_init := _, d_Layout_init := _, F_Layout_init := F_Layout_init,
    a_Layout_refresh := _, d_Layout_refresh := _, F_Layout_refresh := F_Layout_refresh,
    b_Layout_refresh := F_Layout_refresh.binds (ps := ["self", "rows"]) (fun _ _ _ _ _ _ us hl => match us, hl with | [_, _], _ => rfl),
    a_Layout_screen_rows := _, d_Layout_screen_rows := _, F_Layout_screen_rows := F_Layout_screen_rows,
    b_Layout_screen_rows := F_Layout_screen_rows.binds (ps := ["self", "hidden"]) (fun _ _ _ _ _ _ us hl => match us, hl with | [_, _], _ => rfl),
    a_Tiler_init := _, d_Tiler_init := _, F_Tiler_init := F_Tiler_init,
    b_Tiler_init := F_Tiler_init.binds (ps := ["self", "text", "tints", "layout", "picks", "hidden"]) (fun _ _ _ _ _ _ us hl => match us, hl with | [_, _, _, _, _, _], _ => rfl),
    a_Tiler_index_at := _, d_Tiler_index_at := _, F_Tiler_index_at := F_Tiler_index_at,
    b_Tiler_index_at := F_Tiler_index_at.binds (ps := ["self", "place"]) (fun _ _ _ _ _ _ us hl => match us, hl with | [_, _], _ => rfl),
    a_Tiler_tile_at := _, d_Tiler_tile_at := _, F_Tiler_tile_at := F_Tiler_tile_at,
    b_Tiler_tile_at := F_Tiler_tile_at.binds (ps := ["self", "place"]) (fun _ _ _ _ _ _ us hl => match us, hl with | [_, _], _ => rfl),
    a_Tiler_is_above_fold := _, d_Tiler_is_above_fold := _, F_Tiler_is_above_fold := F_Tiler_is_above_fold,
    b_Tiler_is_above_fold := F_Tiler_is_above_fold.binds (ps := ["self", "index"]) (fun _ _ _ _ _ _ us hl => match us, hl with | [_, _], _ => rfl),
    a_Tiler_colours_of := _, d_Tiler_colours_of := _, F_Tiler_colours_of := F_Tiler_colours_of,
    b_Tiler_colours_of := F_Tiler_colours_of.binds (ps := ["self", "line", "start", "end"]) (fun _ _ _ _ _ _ us hl => match us, hl with | [_, _, _, _], _ => rfl),
    a_Tiler_tiles := _, d_Tiler_tiles := _, F_Tiler_tiles := F_Tiler_tiles,
    b_Tiler_tiles := F_Tiler_tiles.binds (ps := ["self", "index"]) (fun _ _ _ _ _ _ us hl => match us, hl with | [_, _], _ => rfl),
    dv_screen_of_picks := dv_screen_of_picks, du_screen_of_picks := ⟨_, _, _, dl_screen_of_picks, rfl, rfl, (show 0 ≤ sizeLine by decide), .nil⟩,
    dv_screen_of_folds := dv_screen_of_folds, du_screen_of_folds := ⟨_, _, _, dl_screen_of_folds, rfl, rfl, (show 0 ≤ sizeLine by decide), .nil⟩,
    tkd_screen_of_top := tkd_screen_of_top,
    kb_Tiler_init_0 := ⟨fun _ us ws X l1 l2 => match us, ws, l1, l2 with | [_, _, _, _, _, _], [], _, _ => .of_eq rfl, gk_Tiler_init_0_rel⟩,
    kb_Layout_init_0 := ⟨fun _ us ws X l1 l2 => match us, ws, l1, l2 with | [_, _], [_], _, _ => .of_eq rfl, gk_Layout_init_0_rel⟩,
    kb_painted_0 := ⟨fun _ us ws X hl => match us, ws, hl with | [], [_, _], _ => .of_eq rfl, gk_painted_0_rel⟩,
    kb_paints_0 := ⟨fun _ us ws X hl => match us, ws, hl with | [], [_, _], _ => .of_eq rfl, gk_paints_0_rel⟩,
    kb_screen_of_0 := ⟨fun _ us ws X hl => match us, ws, hl with | [_, _, _], [], _ => BindsTo.of_looks fun M => KwChain.looks X (l := [("wordwise", .bool false), ("book", .none), ("picks", .ref dv_screen_of_picks), ("folds", .ref dv_screen_of_folds), ("top", .int 0 tkd_screen_of_top)]) (by rintro q hq; simp only [List.mem_cons, List.not_mem_nil, or_false] at hq; rcases hq with rfl | rfl | rfl | rfl | rfl; all_goals assumption) ⟨_, _, _, _, _, _, rfl, rfl, ⟨_, _, _, _, _, _, rfl, rfl, ⟨_, _, _, _, _, _, rfl, rfl, ⟨_, _, _, _, _, _, rfl, rfl, ⟨_, _, _, _, _, _, rfl, rfl, rfl⟩⟩⟩⟩⟩, gk_screen_of_0_rel (show RelV (.bl false) (.bool false) from rfl) (show RelV (.non) (.none) from rfl) (show RelV (.ref dv_screen_of_picks) (.ref dv_screen_of_picks) from rfl) (show RelV (.ref dv_screen_of_folds) (.ref dv_screen_of_folds) from rfl) (show RelV (.int 0) (.int 0 tkd_screen_of_top) from ⟨_, rfl⟩)⟩,
    kb_screen_of_1 := ⟨fun _ us ws X hl => match us, ws, hl with | [_, _, _], [_], _ => BindsTo.of_looks fun M => KwChain.looks X (l := [("book", .none), ("picks", .ref dv_screen_of_picks), ("folds", .ref dv_screen_of_folds), ("top", .int 0 tkd_screen_of_top)]) (by rintro q hq; simp only [List.mem_cons, List.not_mem_nil, or_false] at hq; rcases hq with rfl | rfl | rfl | rfl; all_goals assumption) ⟨_, _, _, _, _, _, rfl, rfl, ⟨_, _, _, _, _, _, rfl, rfl, ⟨_, _, _, _, _, _, rfl, rfl, ⟨_, _, _, _, _, _, rfl, rfl, rfl⟩⟩⟩⟩, gk_screen_of_1_rel (show RelV (.non) (.none) from rfl) (show RelV (.ref dv_screen_of_picks) (.ref dv_screen_of_picks) from rfl) (show RelV (.ref dv_screen_of_folds) (.ref dv_screen_of_folds) from rfl) (show RelV (.int 0) (.int 0 tkd_screen_of_top) from ⟨_, rfl⟩)⟩,
    kb_laid_0 := ⟨fun _ us ws X hl => match us, ws, hl with | [_, _], [_], _ => .of_eq rfl, gk_laid_0_rel⟩,
    c_Layout := C_Layout, g_Layout := PySem.W.mg_of X G aC_Layout, k_Layout := ⟨pg_Layout, hd_Layout, po_Layout, sa_Layout⟩, mk_Layout := ⟨mk_Layout, a_Layout_init, fn_Layout_init, kC_Layout⟩,
    na_Layout_width := na_Layout_width,
    na_Layout_wordwise := na_Layout_wordwise,
    na_Layout_known := na_Layout_known,
    na_Layout_lines := na_Layout_lines,
    c_Tiler := C_Tiler, g_Tiler := PySem.W.mg_of X G aC_Tiler, k_Tiler := ⟨pg_Tiler, hd_Tiler, po_Tiler, sa_Tiler⟩, mk_Tiler := ⟨mk_Tiler, a_Tiler_init, fn_Tiler_init, kC_Tiler⟩,
    na_Tiler_letters := na_Tiler_letters,
    na_Tiler_rows := na_Tiler_rows,
    na_Tiler_tints := na_Tiler_tints,
    na_Tiler_width := na_Tiler_width,
    na_Tiler_hidden := na_Tiler_hidden,
    na_Tiler_laid_rows := na_Tiler_laid_rows,
    na_Tiler_stretches := na_Tiler_stretches,
    na_Tiler_heads := na_Tiler_heads,
    m_Layout_refresh := ⟨a_Layout_refresh, fn_Layout_refresh, k_Layout_refresh⟩,
    m_Layout_screen_rows := ⟨a_Layout_screen_rows, fn_Layout_screen_rows, k_Layout_screen_rows⟩,
    m_Tiler_index_at := ⟨a_Tiler_index_at, fn_Tiler_index_at, k_Tiler_index_at⟩,
    m_Tiler_tile_at := ⟨a_Tiler_tile_at, fn_Tiler_tile_at, k_Tiler_tile_at⟩,
    m_Tiler_is_above_fold := ⟨a_Tiler_is_above_fold, fn_Tiler_is_above_fold, k_Tiler_is_above_fold⟩,
    m_Tiler_colours_of := ⟨a_Tiler_colours_of, fn_Tiler_colours_of, k_Tiler_colours_of⟩,
    m_Tiler_tiles := ⟨a_Tiler_tiles, fn_Tiler_tiles, k_Tiler_tiles⟩,
    c_BadPlace := C_BadPlace, ai_BadPlace := fi_BadPlace, d_BadPlace := _, F_BadPlace := F_BadPlace, b_BadPlace := F_BadPlace.binds (ps := ["self", "at"]) (fun _ _ _ _ _ _ us hl => match us, hl with | [_, _], _ => rfl), g_BadPlace := PySem.W.mg_of X G aC_BadPlace,
    o_BadPlace := ⟨⟨_, _, _, _, _, _, _, _, _, _, _, _, _, _, _, xL_BadPlace, rfl⟩, sa_BadPlace, eC_BadPlace, tC_BadPlace, kC_BadPlace⟩, x_BadPlace := ⟨ga_BadPlace, gg_BadPlace, eC_BadPlace, hC_BadPlace⟩,
    i_BadPlace := iC_BadPlace, ti_BadPlace := ti_BadPlace, e_BadPlace := exm_self eC_BadPlace yC_BadPlace tC_BadPlace sC_BadPlace,
    na_BadPlace_at := na_BadPlace_at,
    a_EMPTY_TILE := h_EMPTY_TILE, u_EMPTY_TILE := ⟨_, _, _, hl_EMPTY_TILE, rfl, rfl, (show 3 ≤ sizeLine by decide), (.cons ⟨_, rfl⟩ (.cons ⟨_, rfl⟩ (.cons ⟨_, rfl⟩ .nil)))⟩,
    t_SELECTED := tk_SELECTED, g_SELECTED := PySem.W.mg_of X G v_SELECTED,
    t_HEAD_HERE := tk_HEAD_HERE, g_HEAD_HERE := PySem.W.mg_of X G v_HEAD_HERE,
    t_FOLD_BELOW := tk_FOLD_BELOW, g_FOLD_BELOW := PySem.W.mg_of X G v_FOLD_BELOW,
    g_EMPTY_TILE := PySem.W.mg_of X G v_EMPTY_TILE,
    t_ALPHABET := tk_ALPHABET, g_ALPHABET := PySem.W.mg_of X G v_ALPHABET,
    n_abs := PySem.W.mg_none_of X G z_abs,
    n_bool := PySem.W.mg_none_of X G z_bool,
    n_enumerate := PySem.W.mg_none_of X G z_enumerate,
    n_int := PySem.W.mg_none_of X G z_int,
    n_isinstance := PySem.W.mg_none_of X G z_isinstance,
    n_len := PySem.W.mg_none_of X G z_len,
    n_list := PySem.W.mg_none_of X G z_list,
    n_max := PySem.W.mg_none_of X G z_max,
    n_min := PySem.W.mg_none_of X G z_min,
    n_range := PySem.W.mg_none_of X G z_range,
    n_set := PySem.W.mg_none_of X G z_set,
    n_sorted := PySem.W.mg_none_of X G z_sorted,
    n_str := PySem.W.mg_none_of X G z_str,
    n_sum := PySem.W.mg_none_of X G z_sum,
    n_tuple := PySem.W.mg_none_of X G z_tuple }
  exact ⟨PySem.W.fnOf "law" "law" (defArgs s_law) (defBody s_law) (defScope s_law) .none kV_law dc_law pm_law an_law cd_law ct_law, fun s v => .of_eq rfl, fun base _ _ => ok_law T⟩
end K63
open PySem PySem.W PyProof.Rows
set_option maxHeartbeats 0 in
theorem PySem.Challenge.cw_deedstand_k63_paints_least_holds : PySem.Challenge.rw_deedstand_k63_paints_least.Holds := by
  w_on; o_law; k_head; (case hw => w_witness2)
  k_fill
  refine L2.walk_of (l := PySem.Challenge.rw_deedstand_k63_paints_least) (n := 63) (k := 9) (x := "_law_script") (CX := fun _ => L2.CX0) (sp := fun w => K63.sp_law _) rfl (by decide) rfl ⟨rfl, by decide, by decide⟩ (fun w h Y => PySem.W.kIn_of Y) ?F (fun _ _ a ns hl _ hS => ⟨a, ns, rfl, hS, hl, fun _ => rfl⟩) (fun _ _ _ _ _ h => h)
  case F =>
    intro w mg fa h KX G hmg
    refine' K63.all_mk KX G hmg ?aC_Layout ?aC_Tiler ?aC_BadPlace ?a_row_paints ?l_row_paints ?c_row_paints ?k_row_paints ?a_paints ?l_paints ?c_paints ?k_paints ?a_painted ?l_painted ?c_painted ?k_painted ?a_piece_end ?l_piece_end ?c_piece_end ?k_piece_end ?a_laid ?l_laid ?c_laid ?k_laid ?a_rows_of ?l_rows_of ?c_rows_of ?k_rows_of ?a_spot_of ?l_spot_of ?c_spot_of ?k_spot_of ?a_row_bounds ?l_row_bounds ?c_row_bounds ?k_row_bounds ?a_row_at ?l_row_at ?c_row_at ?k_row_at ?a_place_in ?l_place_in ?c_place_in ?k_place_in ?a_top_row ?l_top_row ?c_top_row ?k_top_row ?a_low_high ?l_low_high ?c_low_high ?k_low_high ?a_joined_stretches ?l_joined_stretches ?c_joined_stretches ?k_joined_stretches ?a_lines_hidden ?l_lines_hidden ?c_lines_hidden ?k_lines_hidden ?a_selected_flags ?l_selected_flags ?c_selected_flags ?k_selected_flags ?a_tiled ?l_tiled ?c_tiled ?k_tiled ?a_screen_of ?l_screen_of ?kd_screen_of_wordwise ?kd_screen_of_book ?kd_screen_of_picks ?kd_screen_of_folds ?kd_screen_of_top ?c_screen_of ?k_screen_of ?a_law_pool ?l_law_pool ?c_law_pool ?k_law_pool ?a_law_next ?l_law_next ?c_law_next ?k_law_next ?a_law_signs ?l_law_signs ?c_law_signs ?k_law_signs ?a_law_same ?l_law_same ?c_law_same ?k_law_same ?a_law_tile ?l_law_tile ?c_law_tile ?k_law_tile ?a_law_near ?l_law_near ?c_law_near ?k_law_near ?a_law_screen ?l_law_screen ?c_law_screen ?k_law_screen ?a_law_turned ?l_law_turned ?c_law_turned ?k_law_turned ?a_law_due ?l_law_due ?c_law_due ?k_law_due ?a_law_spread ?l_law_spread ?c_law_spread ?k_law_spread ?a_law_strokes ?l_law_strokes ?c_law_strokes ?k_law_strokes ?a_law_pair ?l_law_pair ?c_law_pair ?k_law_pair ?a_law_text ?l_law_text ?c_law_text ?k_law_text ?a_law ?l_law ?c_law ?k_law ?a_Layout_init ?fn_Layout_init ?l_Layout_init ?c_Layout_init ?k_Layout_init ?a_Layout_refresh ?fn_Layout_refresh ?l_Layout_refresh ?c_Layout_refresh ?k_Layout_refresh ?a_Layout_screen_rows ?fn_Layout_screen_rows ?l_Layout_screen_rows ?c_Layout_screen_rows ?k_Layout_screen_rows ?a_Tiler_init ?fn_Tiler_init ?l_Tiler_init ?c_Tiler_init ?k_Tiler_init ?a_Tiler_index_at ?fn_Tiler_index_at ?l_Tiler_index_at ?c_Tiler_index_at ?k_Tiler_index_at ?a_Tiler_tile_at ?fn_Tiler_tile_at ?l_Tiler_tile_at ?c_Tiler_tile_at ?k_Tiler_tile_at ?a_Tiler_is_above_fold ?fn_Tiler_is_above_fold ?l_Tiler_is_above_fold ?c_Tiler_is_above_fold ?k_Tiler_is_above_fold ?a_Tiler_colours_of ?fn_Tiler_colours_of ?l_Tiler_colours_of ?c_Tiler_colours_of ?k_Tiler_colours_of ?a_Tiler_tiles ?fn_Tiler_tiles ?l_Tiler_tiles ?c_Tiler_tiles ?k_Tiler_tiles ?dl_screen_of_picks ?dl_screen_of_folds ?pg_Layout ?hd_Layout ?po_Layout ?sa_Layout ?mk_Layout ?kC_Layout ?na_Layout_width ?na_Layout_wordwise ?na_Layout_known ?na_Layout_lines ?pg_Tiler ?hd_Tiler ?po_Tiler ?sa_Tiler ?mk_Tiler ?kC_Tiler ?na_Tiler_letters ?na_Tiler_rows ?na_Tiler_tints ?na_Tiler_width ?na_Tiler_hidden ?na_Tiler_laid_rows ?na_Tiler_stretches ?na_Tiler_heads ?xL_BadPlace ?sa_BadPlace ?ga_BadPlace ?gg_BadPlace ?na_BadPlace_at ?iC_BadPlace ?ti_BadPlace ?li_BadPlace ?ci_BadPlace ?ki_BadPlace ?kC_BadPlace ?eC_BadPlace ?tC_BadPlace ?hC_BadPlace ?yC_BadPlace ?sC_BadPlace ?v_SELECTED ?v_HEAD_HERE ?v_FOLD_BELOW ?v_EMPTY_TILE ?hl_EMPTY_TILE ?v_ALPHABET ?z_abs ?z_bool ?z_enumerate ?z_int ?z_isinstance ?z_len ?z_list ?z_max ?z_min ?z_range ?z_set ?z_sorted ?z_str ?z_sum ?z_tuple
    (case aC_Layout => k_is)
    (case aC_Tiler => k_is)
    (case aC_BadPlace => k_is)
    (case a_row_paints => k_is)
    (case l_row_paints => k_is)
    (case c_row_paints => k_is)
    (case k_row_paints => k_is)
    (case a_paints => k_is)
    (case l_paints => k_is)
    (case c_paints => k_is)
    (case k_paints => k_is)
    (case a_painted => k_is)
    (case l_painted => k_is)
    (case c_painted => k_is)
    (case k_painted => k_is)
    (case a_piece_end => k_is)
    (case l_piece_end => k_is)
    (case c_piece_end => k_is)
    (case k_piece_end => k_is)
    (case a_laid => k_is)
    (case l_laid => k_is)
    (case c_laid => k_is)
    (case k_laid => k_is)
    (case a_rows_of => k_is)
    (case l_rows_of => k_is)
    (case c_rows_of => k_is)
    (case k_rows_of => k_is)
    (case a_spot_of => k_is)
    (case l_spot_of => k_is)
    (case c_spot_of => k_is)
    (case k_spot_of => k_is)
    (case a_row_bounds => k_is)
    (case l_row_bounds => k_is)
    (case c_row_bounds => k_is)
    (case k_row_bounds => k_is)
    (case a_row_at => k_is)
    (case l_row_at => k_is)
    (case c_row_at => k_is)
    (case k_row_at => k_is)
    (case a_place_in => k_is)
    (case l_place_in => k_is)
    (case c_place_in => k_is)
    (case k_place_in => k_is)
    (case a_top_row => k_is)
    (case l_top_row => k_is)
    (case c_top_row => k_is)
    (case k_top_row => k_is)
    (case a_low_high => k_is)
    (case l_low_high => k_is)
    (case c_low_high => k_is)
    (case k_low_high => k_is)
    (case a_joined_stretches => k_is)
    (case l_joined_stretches => k_is)
    (case c_joined_stretches => k_is)
    (case k_joined_stretches => k_is)
    (case a_lines_hidden => k_is)
    (case l_lines_hidden => k_is)
    (case c_lines_hidden => k_is)
    (case k_lines_hidden => k_is)
    (case a_selected_flags => k_is)
    (case l_selected_flags => k_is)
    (case c_selected_flags => k_is)
    (case k_selected_flags => k_is)
    (case a_tiled => k_is)
    (case l_tiled => k_is)
    (case c_tiled => k_is)
    (case k_tiled => k_is)
    (case a_screen_of => k_is)
    (case l_screen_of => k_is)
    (case kd_screen_of_wordwise => k_is)
    (case kd_screen_of_book => k_is)
    (case kd_screen_of_picks => k_is)
    (case kd_screen_of_folds => k_is)
    (case kd_screen_of_top => k_is)
    (case c_screen_of => k_is)
    (case k_screen_of => k_is)
    (case a_law_pool => k_is)
    (case l_law_pool => k_is)
    (case c_law_pool => k_is)
    (case k_law_pool => k_is)
    (case a_law_next => k_is)
    (case l_law_next => k_is)
    (case c_law_next => k_is)
    (case k_law_next => k_is)
    (case a_law_signs => k_is)
    (case l_law_signs => k_is)
    (case c_law_signs => k_is)
    (case k_law_signs => k_is)
    (case a_law_same => k_is)
    (case l_law_same => k_is)
    (case c_law_same => k_is)
    (case k_law_same => k_is)
    (case a_law_tile => k_is)
    (case l_law_tile => k_is)
    (case c_law_tile => k_is)
    (case k_law_tile => k_is)
    (case a_law_near => k_is)
    (case l_law_near => k_is)
    (case c_law_near => k_is)
    (case k_law_near => k_is)
    (case a_law_screen => k_is)
    (case l_law_screen => k_is)
    (case c_law_screen => k_is)
    (case k_law_screen => k_is)
    (case a_law_turned => k_is)
    (case l_law_turned => k_is)
    (case c_law_turned => k_is)
    (case k_law_turned => k_is)
    (case a_law_due => k_is)
    (case l_law_due => k_is)
    (case c_law_due => k_is)
    (case k_law_due => k_is)
    (case a_law_spread => k_is)
    (case l_law_spread => k_is)
    (case c_law_spread => k_is)
    (case k_law_spread => k_is)
    (case a_law_strokes => k_is)
    (case l_law_strokes => k_is)
    (case c_law_strokes => k_is)
    (case k_law_strokes => k_is)
    (case a_law_pair => k_is)
    (case l_law_pair => k_is)
    (case c_law_pair => k_is)
    (case k_law_pair => k_is)
    (case a_law_text => k_is)
    (case l_law_text => k_is)
    (case c_law_text => k_is)
    (case k_law_text => k_is)
    (case a_law => k_is)
    (case l_law => k_is)
    (case c_law => k_is)
    (case k_law => k_is)
    (case a_Layout_init => k_is)
    (case fn_Layout_init => k_is)
    (case l_Layout_init => k_is)
    (case c_Layout_init => k_is)
    (case k_Layout_init => k_is)
    (case a_Layout_refresh => k_is)
    (case fn_Layout_refresh => k_is)
    (case l_Layout_refresh => k_is)
    (case c_Layout_refresh => k_is)
    (case k_Layout_refresh => k_is)
    (case a_Layout_screen_rows => k_is)
    (case fn_Layout_screen_rows => k_is)
    (case l_Layout_screen_rows => k_is)
    (case c_Layout_screen_rows => k_is)
    (case k_Layout_screen_rows => k_is)
    (case a_Tiler_init => k_is)
    (case fn_Tiler_init => k_is)
    (case l_Tiler_init => k_is)
    (case c_Tiler_init => k_is)
    (case k_Tiler_init => k_is)
    (case a_Tiler_index_at => k_is)
    (case fn_Tiler_index_at => k_is)
    (case l_Tiler_index_at => k_is)
    (case c_Tiler_index_at => k_is)
    (case k_Tiler_index_at => k_is)
    (case a_Tiler_tile_at => k_is)
    (case fn_Tiler_tile_at => k_is)
    (case l_Tiler_tile_at => k_is)
    (case c_Tiler_tile_at => k_is)
    (case k_Tiler_tile_at => k_is)
    (case a_Tiler_is_above_fold => k_is)
    (case fn_Tiler_is_above_fold => k_is)
    (case l_Tiler_is_above_fold => k_is)
    (case c_Tiler_is_above_fold => k_is)
    (case k_Tiler_is_above_fold => k_is)
    (case a_Tiler_colours_of => k_is)
    (case fn_Tiler_colours_of => k_is)
    (case l_Tiler_colours_of => k_is)
    (case c_Tiler_colours_of => k_is)
    (case k_Tiler_colours_of => k_is)
    (case a_Tiler_tiles => k_is)
    (case fn_Tiler_tiles => k_is)
    (case l_Tiler_tiles => k_is)
    (case c_Tiler_tiles => k_is)
    (case k_Tiler_tiles => k_is)
    (case dl_screen_of_picks => k_is)
    (case dl_screen_of_folds => k_is)
    (case pg_Layout => k_is)
    (case hd_Layout => k_is)
    (case po_Layout => k_is)
    (case sa_Layout => k_is)
    (case mk_Layout => k_is)
    (case kC_Layout => k_is)
    (case na_Layout_width => k_is)
    (case na_Layout_wordwise => k_is)
    (case na_Layout_known => k_is)
    (case na_Layout_lines => k_is)
    (case pg_Tiler => k_is)
    (case hd_Tiler => k_is)
    (case po_Tiler => k_is)
    (case sa_Tiler => k_is)
    (case mk_Tiler => k_is)
    (case kC_Tiler => k_is)
    (case na_Tiler_letters => k_is)
    (case na_Tiler_rows => k_is)
    (case na_Tiler_tints => k_is)
    (case na_Tiler_width => k_is)
    (case na_Tiler_hidden => k_is)
    (case na_Tiler_laid_rows => k_is)
    (case na_Tiler_stretches => k_is)
    (case na_Tiler_heads => k_is)
    (case xL_BadPlace => k_is)
    (case sa_BadPlace => k_is)
    (case ga_BadPlace => k_is)
    (case gg_BadPlace => k_is)
    (case na_BadPlace_at => k_is)
    (case iC_BadPlace => k_is)
    (case ti_BadPlace => k_is)
    (case li_BadPlace => k_is)
    (case ci_BadPlace => k_is)
    (case ki_BadPlace => k_is)
    (case kC_BadPlace => k_is)
    (case eC_BadPlace => k_is)
    (case tC_BadPlace => k_is)
    (case hC_BadPlace => k_is)
    (case yC_BadPlace => k_is)
    (case sC_BadPlace => first | rfl | k_is)
    (case v_SELECTED => k_is)
    (case v_HEAD_HERE => k_is)
    (case v_FOLD_BELOW => k_is)
    (case v_EMPTY_TILE => k_is)
    (case hl_EMPTY_TILE => k_is)
    (case v_ALPHABET => k_is)
    (case z_abs => k_is)
    (case z_bool => k_is)
    (case z_enumerate => k_is)
    (case z_int => k_is)
    (case z_isinstance => k_is)
    (case z_len => k_is)
    (case z_list => k_is)
    (case z_max => k_is)
    (case z_min => k_is)
    (case z_range => k_is)
    (case z_set => k_is)
    (case z_sorted => k_is)
    (case z_str => k_is)
    (case z_sum => k_is)
    (case z_tuple => k_is)

