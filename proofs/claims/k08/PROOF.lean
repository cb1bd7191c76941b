import PyProof.Rows.All
import Wide.All
import OpenK.AllK
import Wide.FinOn
import HandS.ForMost
import HandS.SortKw
import HandS.More
import HandS.OwnEq
import HandS.Keys
import KE.SortKeyHeap
import HandS.IsInst
import HandS.TupAny
import HandS.Wide
import HandS.ClsMeth
import HandS.Star
import HandS.CallLocal
import HandS.Codes
import HandS.Flow
import KE.GoesMore
import HandS.Style
import HandS.Conv
import HandS.Head0
import HandS.Head1
import HandS.Head2
import HandS.HeadEnd
import HandS.HeadHook1
import HandS.HeadHook2
import HandS.HeadNt
import PySem.Challenge.RW_speaklast_k08_sets_told_by_their_parts
set_option Elab.async false
set_option linter.all false
set_option maxRecDepth 100000
set_option maxHeartbeats 2000000
namespace Spk
open PySem PySem.Spec PyProof.Rows PySem.W L2

/-! ## sorted(xs, key=f), f a def of the program that keeps an L2 promise -/
theorem heap_without (h : Heap) (k : Addr) : ∃ g : Heap, g.get? k = none ∧ ∀ b, b ≠ k → g.get? b = h.get? b := by
  by_cases hk : k < h.objs.size
  · refine ⟨{ h with objs := h.objs.set k ⟨.none, none, .freed, #[]⟩ hk }, ?_, fun b hb => ?_⟩
    · unfold Heap.get?
      simp
    · unfold Heap.get?
      simp only [Array.getElem?_set, if_neg (Ne.symm hb)]
  · refine ⟨h, ?_, fun _ _ => rfl⟩
    unfold Heap.get?
    rw [Array.getElem?_eq_none (Nat.le_of_not_lt hk)]

mutual
theorem dp_same {K : Frag} {H H' : Hp} (e : Same H H') : ∀ (d : PyData) (v : V), Dp K H v d → Dp K H' v d
  | .none, _, h => by cases h; exact .non
  | .bool b, _, h => by cases h; exact .bl b
  | .int i, _, h => by cases h; exact .int i
  | .str x, _, h => by cases h; exact .str x
  | .list ds, _, h => by
    cases h with
    | lst s a => exact .lst (SqL.ext s e) (dps_same e ds _ a)
  | .tuple ds, _, h => by
    cases h with
    | tup s a => exact .tup (SqT.ext s e) (dps_same e ds _ a)
  | .dict _, _, h => by cases h
theorem dps_same {K : Frag} {H H' : Hp} (e : Same H H') : ∀ (ds : List PyData) (vs : List V), DpAll K H vs ds → DpAll K H' vs ds
  | [], _, h => by cases h; exact .nil
  | d :: ds, _, h => by
    cases h with
    | cons a b => exact .cons (dp_same e d _ a) (dps_same e ds _ b)
end

/-- a def that keeps a promise, called somewhere below the running body -/
theorem call_at {X : Cx} {n : Nat} {f : Addr} {sp : Sp} (F : FnR X.prog X.w X.K X.mg X.base CX0 n f sp) {A' : Around} (sb : Sub X n A') {pins : List (Addr × Obj)} {s : Shared} {σ : L2.St} {H : Hp} (I : Inv X pins σ H s)
    {vs : List V} {us : List Value} {Q : VK} {E : Value → Shared → Prop} (r : Vals vs us) (h : sp vs H Q E0) : wpAny (model X.prog X.w) A' (call (.ref f) us) (EP X pins σ Q) E s := by
  have e0 : Env0 X.prog X.w X.K X.mg X.base A' X.stack s H := by
    have e := I.env0
    exact ⟨by rw [sb.fr]; exact e.frames, e.mod, e.bs, e.bsz, e.funs, e.frf, e.hok, e.bare⟩
  refine wpAny_call (codeAny_mono (F A' X.stack s H us vs Q E0 sb.room e0 r h) fun r s' hq => ?_)
  cases r with
  | error e => exact False.elim hq
  | ok fl =>
    cases fl with
    | ret w => exact I.after hq
    | next => exact False.elim hq
    | brk => exact False.elim hq
    | cont => exact False.elim hq

/-- the keys told so far -/
def KeysIn (K : Frag) (H : Hp) : List Value → List PyData → Prop := EachIs fun u d => ∃ v, RelV v u ∧ Dp K H v d

structure KeyLoop (X : Cx) (pins : List (Addr × Obj)) (σ : L2.St) (H : Hp) (a kS : Addr) (e1 : Nat) (kz : List PyData) (i : Nat) (s' : Shared) : Prop where
  ex : ∃ (H' : Hp) (kA : Array Value) (e : Nat), Inv X pins σ H' s' ∧ Same H H' ∧ FpOk X pins H' a ∧ FpOk X pins H' kS ∧ s'.heap.get? kS = some (seqObj "list" kA e) ∧
    s'.heap.get? a = some (seqObj "list" #[] e1) ∧ KeysIn X.K H' kA.toList (kz.take i)

theorem key_turn {X : Cx} {n : Nat} {f : Addr} {sp : Sp} (F : FnR X.prog X.w X.K X.mg X.base CX0 n f sp) {A' : Around} (sb : Sub X n A') {pins : List (Addr × Obj)} {σ : L2.St} {H : Hp} {a kS : Addr} {e1 : Nat} {kz : List PyData} {i : Nat} {s' : Shared}
    (hka : kS ≠ a) {x : V} {u : Value} {d : PyData} (ru : RelV x u) (hd : kz[i]? = some d) (turn : ∀ H', Same H H' → sp [x] H' (fun v H'' => Same H' H'' ∧ Dp X.K H'' v d) E0) (J : KeyLoop X pins σ H a kS e1 kz i s') {E : Value → Shared → Prop} :
    wpAny (model X.prog X.w) A' (call (.ref f) [u]) (fun v s'' => ∃ (kA : Array Value) (e : Nat), s''.heap.get? kS = some (seqObj "list" kA e) ∧ kA.size ≤ i ∧
      ∀ h' : Heap, (∀ b o, b ≠ kS → s''.heap.get? b = some o → h'.get? b = some o) → (∃ e', h'.get? kS = some (seqObj "list" (kA.push v) e')) → KeyLoop X pins σ H a kS e1 kz (i + 1) { s'' with heap := h' }) E s' := by
  obtain ⟨H', kA, e, I, sm, fa, fk, nk, na, ks⟩ := J.ex
  have Ip := I.pinned (fp := [a, kS]) (fun b hb => by
      rcases List.mem_cons.mp hb with rfl | hb
      · exact fa
      · rw [List.mem_singleton.mp hb]; exact fk) (fun b hb => by
      rcases List.mem_cons.mp hb with rfl | hb
      · exact ⟨_, na, fun v z => nomatch z⟩
      · rw [List.mem_singleton.mp hb]; exact ⟨_, nk, fun v z => nomatch z⟩)
  refine wpAny_mono (call_at F sb Ip (.cons ru .nil) (turn H' sm)) (fun v s'' he => ?_) fun _ _ z => z
  obtain ⟨w, H2, I2, rw2, sm2, dp⟩ := he
  have pa := I2.pin (a, _) (List.mem_append_right _ (List.mem_append_right _ (mem_pinsAt (by simp) na)))
  have pk := I2.pin (kS, _) (List.mem_append_right _ (List.mem_append_right _ (mem_pinsAt (by simp) nk)))
  have I3 := I2.unpinned
  have hsz : kA.size ≤ i := by
    have h1 := ks.length
    rw [Array.length_toList, List.length_take] at h1
    omega
  have fk2 : FpOk X pins H2 kS := ⟨pk.2.1, fk.2⟩
  have fa2 : FpOk X pins H2 a := ⟨pa.2.1, fa.2⟩
  refine ⟨kA, e, pk.1, hsz, fun h' keep ⟨e', hk'⟩ => ⟨⟨H2, kA.push v, e', ?_, fun b o q => sm2 b o (sm b o q), fa2, fk2, hk', keep a _ (Ne.symm hka) pa.1, ?_⟩⟩⟩
  · exact I3.turnedL (t' := s''.toks) (ch := [kS]) (fun b o hb q => keep b o (by simpa using hb) q) (fun b hb => by rw [List.mem_singleton.mp hb]; exact fk2)
  · have ek : kz.take (i + 1) = kz.take i ++ [d] := by rw [List.take_add_one, hd]; simp
    have ea : (kA.push v).toList = kA.toList ++ [v] := by simp
    rw [ea, ek]
    unfold KeysIn
    refine each_snoc ⟨w, rw2, dp⟩ ?_
    exact EachIs.mono (fun u d ⟨z, rz, dz⟩ => ⟨z, rz, dp_same sm2 d z dz⟩) ks

/-- the items in the order of their keys -/
def byKeys (xs : List V) (kz : List PyData) : List V := ((xs.zip kz).mergeSort (dataLe false (·.2))).map (·.1)

theorem each_vals : ∀ {vs : List Value} {bs : List (V × PyData)}, EachIs (fun u (b : V × PyData) => RelV b.1 u) vs bs → Vals (bs.map (·.1)) vs := by
  intro vs bs h
  induction h with
  | nil => exact .nil
  | cons r _ ih => exact .cons r ih
theorem each_zip : ∀ {xs : List V} {vs : List Value} {kz : List PyData}, Vals xs vs → kz.length = xs.length → EachIs (fun u (b : V × PyData) => RelV b.1 u) vs (xs.zip kz)
  | _, _, [], .nil, _ => .nil
  | _, _, d :: kz, .cons r t, h => .cons r (each_zip t (by simpa using h))
  | _, _, [], .cons _ _, h => by simp at h
  | _, _, _ :: _, .nil, h => by simp at h

theorem sort_rest {X : Cx} {n : Nat} {f : Addr} {sp : Sp} (F : FnR X.prog X.w X.K X.mg X.base CX0 n f sp) {A' : Around} (sb : Sub X n A') {pins : List (Addr × Obj)} {σ : L2.St} {H : Hp} {a kS : Addr} {e1 : Nat} {kz : List PyData} {s : Shared} {xs : List V} {vs : List Value}
    (hka : kS ≠ a) (r : Vals xs vs) (hlen : kz.length = xs.length) (hZ : xs.length ≤ sizeLine) (hal : AllAlike kz) (hsk : Sortable kz) (hdep : ∀ d, d ∈ kz → A'.units + d.depth < cLine)
    (turn : ∀ (i : Nat) x d, xs[i]? = some x → kz[i]? = some d → ∀ H', Same H H' → sp [x] H' (fun v H'' => Same H' H'' ∧ Dp X.K H'' v d) E0)
    (J : KeyLoop X pins σ H a kS e1 kz 0 s) {P : PySem.Fin → Shared → Prop} {E : Value → Shared → Prop}
    (q : ∀ (H' : Hp) (s' : Shared) (out : List Value) (c : Nat), Inv X pins σ H' s' → Same H H' → FpOk X pins H' a → s'.heap.get? a = some (seqObj "list" out.toArray c) → Vals (byKeys xs kz) out → P (.done (.ret .none)) s') :
    wpAny (model X.prog X.w) A' (ksk_rest a (.ref f) false vs.toArray e1 (.ref kS)) P E s := by
  have hvl : vs.length = xs.length := r.length.symm
  unfold ksk_rest
  refine wpAny_bind (wpAny_rule ?_)
  rw [← Array.forIn_toList]
  refine wpAny_bind (ksk_fold (fun i s' => KeyLoop X pins σ H a kS e1 kz i s') vs 0 s J ?step ?done)
  case step =>
    intro j u s' hu J'
    simp only [Nat.zero_add] at J' ⊢
    have hj : j < vs.length := (List.getElem?_eq_some_iff.mp hu).1
    have hjx : j < xs.length := by omega
    obtain ⟨u', hu', ru⟩ := r.get (i := j) (List.getElem?_eq_getElem hjx)
    rw [hu] at hu'
    cases hu'
    have hjk : j < kz.length := by omega
    refine wpAny_bind (wpAny_attempt (wpAny_mono (key_turn F sb hka ru (List.getElem?_eq_getElem hjk) (turn j _ _ (List.getElem?_eq_getElem hjx) (List.getElem?_eq_getElem hjk)) J') (fun v s'' he => ?_) fun _ _ hF => hF))
    obtain ⟨kA, e, nk, hs, go⟩ := he
    try dsimp only
    have s1 := Heap.SameBut.update s''.heap kS (Obj.mapSeq (·.push v))
    have hks : kA.size ≤ sizeLine := by omega
    refine wpAny_bind (listUpdate_at nk rfl ?_ hks (Nat.le_trans (Nat.le_of_eq (Array.size_push ..)) (Nat.succ_le_succ hks)))
    exact wpAny_pure ⟨rfl, go _ (fun b o hb z => (s1.2 b hb).trans z) ⟨_, get?_update_seq nk (·.push v)⟩⟩
  case done =>
    intro s' J'
    obtain ⟨H', kA, e, I, sm, fa, fk, nk, na, ks⟩ := J'.ex
    rw [Nat.zero_add, hvl, ← hlen, List.take_length] at ks
    have hk' : EachIs (fun v k => ∃ as, Reads s'.heap v k as) kA.toList kz := EachIs.mono (fun u d ⟨z, rz, dz⟩ => Dp.reads I d z u dz rz) ks
    have hsz : kA.size = vs.length := by
      have h1 := hk'.length
      rw [Array.length_toList] at h1
      omega
    refine wpAny_bind (listItems_at nk rfl ?_)
    obtain ⟨g, g0, g1⟩ := heap_without s'.heap kS
    have kp : KeepsBut a g s'.heap := fun b o _ z => by
      by_cases hb : b = kS
      · rw [hb, g0] at z; cases z
      · rw [← g1 b hb]; exact z
    refine keyH_end (κ := dataKind s'.heap kz) (h₁ := g) kp g0 nk na hka (SortsAt.data hk' hal hsk hdep) hsz (by omega) fun h3 tk3 c k3 n3 => ?_
    have keep : ∀ b o, b ∉ [a, kS] → s'.heap.get? b = some o → h3.get? b = some o := fun b o hb z => by
      simp only [List.mem_cons, List.not_mem_nil, or_false, not_or] at hb
      exact k3 b o hb.1 (by rw [g1 b hb.2]; exact z)
    refine q H' _ _ c (I.turnedL (ch := [a, kS]) keep (fun b hb => ?_)) sm fa n3 ?_
    · rcases List.mem_cons.mp hb with rfl | hb
      · exact fa
      · rw [List.mem_singleton.mp hb]; exact fk
    · have ko : KeyedOut false ((xs.zip kz).map (·.2)) vs (sortVals (dataKind s'.heap kz) false kA.toList vs) := by
        rw [List.map_snd_zip (by omega)]
        exact ⟨s'.heap, kA.toList, hal, rfl, hk'⟩
      exact each_vals (keyedOut_each (·.2) ko (each_zip r hlen))

theorem sort_tree {X : Cx} {n : Nat} {f : Addr} {sp : Sp} (F : FnR X.prog X.w X.K X.mg X.base CX0 n f sp) {A' : Around} (sb : Sub X n A') {pins : List (Addr × Obj)} {σ : L2.St} {H : Hp} {kz : List PyData} {s : Shared} {xs : List V} {vs : List Value}
    (I : Inv X pins σ H s) (r : Vals xs vs) (hlen : kz.length = xs.length) (hZ : xs.length ≤ sizeLine) (hal : AllAlike kz) (hsk : Sortable kz) (hdep : ∀ d, d ∈ kz → A'.units + d.depth < cLine)
    (turn : ∀ (i : Nat) x d, xs[i]? = some x → kz[i]? = some d → ∀ H', Same H H' → sp [x] H' (fun v H'' => Same H' H'' ∧ Dp X.K H'' v d) E0)
    {P : PySem.Fin → Shared → Prop} {E : Value → Shared → Prop}
    (q : ∀ (H' : Hp) (s' : Shared), Inv X pins σ (upd H' s.heap.objs.size (.lst (byKeys xs kz))) s' → Same H H' → H' s.heap.objs.size = none → P (.done (.ret .none)) s') :
    wpAny (model X.prog X.w) A' (ksk_tree s.heap.objs.size (.ref f) false) P E { s with heap := s.heap.push (seqObj "list" vs.toArray 0) } := by
  have hvl : vs.length = xs.length := r.length.symm
  have hvz : vs.toArray.size ≤ sizeLine := by rw [List.size_toArray]; omega
  have ho : (s.heap.push (seqObj "list" vs.toArray 0)).get? s.heap.objs.size = some (seqObj "list" vs.toArray 0) := Heap.get?_push_size _ rfl
  have s1 := Heap.SameBut.update (s.heap.push (seqObj "list" vs.toArray 0)) s.heap.objs.size (Obj.mapSeq fun _ => (#[] : Array Value))
  obtain ⟨e1, ho1⟩ : ∃ e1, ((s.heap.push (seqObj "list" vs.toArray 0)).update s.heap.objs.size (Obj.mapSeq fun _ => (#[] : Array Value))).get? s.heap.objs.size = some (seqObj "list" #[] e1) :=
    ⟨_, get?_update_seq ho fun _ => #[]⟩
  have hk : (((s.heap.push (seqObj "list" vs.toArray 0)).update s.heap.objs.size (Obj.mapSeq fun _ => (#[] : Array Value))).push (seqObj "tuple" vs.toArray 0)).objs.size = s.heap.objs.size + 2 := by
    rw [size_push', Heap.size_update, size_push']
  have Ha : H s.heap.objs.size = none := I.hok.fresh (Nat.le_refl _)
  have Hk : H (s.heap.objs.size + 2) = none := I.hok.fresh (Nat.le_add_right _ _)
  unfold ksk_tree
  refine wpAny_bind (listItems_at ho rfl ?_)
  refine wpAny_bind (listUpdate_at ho rfl ?_ hvz (Nat.zero_le _))
  refine wpAny_bind (seqEpoch_at ho1 rfl ?_)
  refine wpAny_bind (wpAny_newTuple ?_ (by show vs.length ≤ _; omega))
  refine wpAny_bind (wpAny_newList ?_ (Nat.zero_le _))
  refine wpAny_holding ?_
  rw [hk]
  refine sort_rest F sb (pins := pins) (σ := σ) (H := H) (a := s.heap.objs.size) (kS := s.heap.objs.size + 2) (Nat.ne_of_gt (Nat.lt_add_of_pos_right (by decide))) r hlen hZ hal hsk hdep turn ⟨H, #[], 0, ?_, Same.refl H, I.fpOk (Nat.le_refl _) Ha, I.fpOk (Nat.le_add_right _ _) Hk, ?_, ?_, ?_⟩ ?_
  · exact I.kept (t' := s.toks) fun b o e => by
      refine Heap.get?_push_of_some _ (Heap.get?_push_of_some _ ?_)
      rw [s1.2 b (Nat.ne_of_lt (Heap.lt_size e))]
      exact Heap.get?_push_of_some _ e
  · have := Heap.get?_push_size (((s.heap.push (seqObj "list" vs.toArray 0)).update s.heap.objs.size (Obj.mapSeq fun _ => (#[] : Array Value))).push (seqObj "tuple" vs.toArray 0)) (o := seqObj "list" #[] 0) rfl
    rw [hk] at this
    exact this
  · exact Heap.get?_push_of_some _ (Heap.get?_push_of_some _ ho1)
  · rw [List.take_zero]
    exact EachIs.nil
  · intro H' s' out c I' sm fa na ro
    refine q H' s' ?_ sm fa.1
    have z : (byKeys xs kz).length ≤ sizeLine := by
      unfold byKeys
      rw [List.length_map, List.length_mergeSort, List.length_zip]
      omega
    exact I'.take (it := s.heap.objs.size) (t' := s'.toks) (fun b ob _ e => e) fa ⟨z, out, c, ro, na⟩

/-- sorted(xs, key=f), xs a list or a tuple: what it asks -/
def rSortKey (K : Frag) (f : Addr) (sp : Sp) : List V → List V → Hp → VK → Prop := fun vs zs H Q => ∃ (l : Addr) (xs : List V) (kz : List PyData), vs = [V.ref l] ∧ zs = [V.ref f] ∧ (SqL K H l xs ∨ SqT K H l xs) ∧
  kz.length = xs.length ∧ AllAlike kz ∧ Sortable kz ∧ (∀ d, d ∈ kz → d.depth ≤ 100) ∧
  (∀ (i : Nat) x d, xs[i]? = some x → kz[i]? = some d → ∀ H', Same H H' → sp [x] H' (fun v H'' => Same H' H'' ∧ Dp K H'' v d) E0) ∧
  ∀ (H' : Hp) (p : Addr), Same H H' → H' p = none → Q (.ref p) (upd H' p (.lst (byKeys xs kz)))

theorem cr_sortKey {X : Cx} {n : Nat} {f : Addr} {sp : Sp} (F : FnR X.prog X.w X.K X.mg X.base CX0 n f sp) (hr : Room (n + 2) X.A) : CallRK X (.builtin "sorted") [Str.ofString "key"] (rSortKey X.K f sp) := by
  intro pins s σ H vs zs us ws Q I r1 r2 h
  obtain ⟨l, xs, kz, rfl, rfl, hl, hlen, hal, hsk, hdep, turn, q⟩ := h
  obtain ⟨u, rfl, ru⟩ := r1.one
  obtain ⟨y, rfl, ry⟩ := r2.one
  cases ru
  cases ry
  show wpAny (model X.prog X.w) X.A (call (.builtin "sorted") [.ref l] [(Str.ofString "key", .ref f)]) (EP X pins σ Q) X.xe s
  have sb : Sub X n X.A.in1.in1 := Sub.in1 (Sub.in1 ⟨hr, rfl⟩)
  obtain ⟨T, o, its, k, hT, ho, hc, hd, r, z⟩ : ∃ (T : String) (o : Obj) (its : List Value) (k : Nat), (T = "list" ∨ T = "tuple") ∧ s.heap.get? l = some o ∧ o.cls = .type T ∧ o.data = .seq its.toArray k ∧ Vals xs its ∧ xs.length ≤ sizeLine := by
    rcases hl with hl | hl
    · obtain ⟨its, r, ⟨o, k, ho, hc, _, hd⟩, z⟩ := I.list hl
      exact ⟨"list", o, its, k, .inl rfl, ho, hc, hd, r, z⟩
    · obtain ⟨its, r, ⟨o, ho, hc, k, hd⟩, z⟩ := I.tuple hl
      exact ⟨"tuple", o, its, k, .inr rfl, ho, hc, hd, r, z⟩
  have hsz : its.length ≤ sizeLine := by rw [← r.length]; exact z
  refine call_function_entry_kw kind_sorted plain_sorted entry_sorted (ksk_s1 _ _) ?_
  unfold Builtin.«sorted»
  refine wpAny_bind (m := checkCount "sorted" 1 1 _) (wpAny_pure ?_)
  refine wpAny_bind (wpAny_collect_seq l hT ho hc hd (fun h' hk => ?_) (by rw [List.size_toArray]; exact hsz))
  have I1 : Inv X pins σ H { s with heap := h' } := I.kept (t' := s.toks) hk
  refine wpAny_bind (wpAny_newList ?_ hsz)
  refine wpAny_bind (wpAny_holding (wpAny_call_entry_kw slot_list_sort ⟨_, Heap.get?_push_size h' rfl, rfl⟩ entry_list_sort ?body (ksk_l1 _ _)))
  case body =>
    rw [ksk_t1]
    refine sort_tree F (s := { s with heap := h' }) sb I1 r hlen z hal hsk (fun d hd => ?_) turn fun H' s' J sm hn => ?_
    · have h1 := hr.un
      have h2 := hdep d hd
      show X.A.units + 1 + 1 + d.depth < cLine
      omega
    · exact ⟨.none, rfl, wpAny_pure ⟨_, rfl, ⟨V.ref h'.objs.size, _, J, rfl, q H' _ sm hn⟩⟩⟩
end Spk

set_option Elab.async false
set_option linter.all false
set_option maxRecDepth 100000
set_option maxHeartbeats 2000000
namespace Spk
open PySem PySem.Spec PyProof.Rows PySem.W L2

/-! ## operators of a class of the program's own -/
section
variable {X : Cx} {n : Nat} {C f : Addr} {sp : Sp}

theorem relR (a : Addr) : RelV (.ref a) (.ref a) := rfl
theorem relB (b : Bool) : RelV (.bl b) (.bool b) := rfl
theorem rel_back {w : V} {r : Value} {Q : Value → Shared → Prop} {s' : Shared} (h : RelV w r) (q : Q r s') : PySem.W.CmpBack Q r s' := by
  cases w with
  | non => cases h; exact q
  | bl b => cases h; exact q
  | int i => obtain ⟨t, rfl⟩ := h; exact q
  | str x => obtain ⟨t, rfl⟩ := h; exact q
  | byt x => obtain ⟨t, rfl⟩ := h; exact q
  | flt x => obtain ⟨t, rfl⟩ := h; exact q
  | ref a => cases h; exact q
  | ty n => cases h; exact q
theorem sub0 {k : Nat} (hr : Room k X.A) : Sub X k X.A := ⟨hr, rfl⟩

/-- an instance as the library's rules want it -/
theorem inst_of {pins : List (Addr × Obj)} {s : Shared} {σ : L2.St} {H : Hp} {a dx : Addr} {fs : List (Str × V)} (I : Inv X pins σ H s) (h : H a = some (.ins C dx fs)) :
    ∃ od, InstAt s.heap a (instObj C dx) C (some od) := by
  obtain ⟨mA, O, _⟩ := ins_get I.hok h
  obtain ⟨od, J, _⟩ := O.look
  exact ⟨od, J⟩

/-- a op b, both instances of C, by C's method -/
def rBin (C : Addr) (sp : Sp) : R2 := fun x y H Q => ∃ a b dx dy fs gs, x = .ref a ∧ y = .ref b ∧ H a = some (.ins C dx fs) ∧ H b = some (.ins C dy gs) ∧ sp [.ref a, .ref b] H Q E0
theorem op_own {op : Operator} (F : FnR X.prog X.w X.K X.mg X.base CX0 n f sp) (hr : Room n X.A) (hc : selfFirst X.K C = true) (hs : findIn X.K (.ref C) (PySem.dunder op.info.2) = some (some (.ref f))) (hf : isFn X.K (.ref f) = true) :
    OpR X (binaryOp op) (rBin C sp) := by
  intro pins s σ H x y v u Q I rx ry h
  obtain ⟨a, b, dx, dy, fs, gs, rfl, rfl, ha, hb, q⟩ := h
  cases rx
  cases ry
  obtain ⟨oa, ja⟩ := inst_of I ha
  obtain ⟨ob, jb⟩ := inst_of I hb
  obtain ⟨m, hF⟩ := I.fr
  refine binop_K hF I.ok.mod.kin ja jb.type hc hs hf ?_
  refine wpAny_mono (call_at F (sub0 hr) I (.cons (relR _) (.cons (relR _) .nil)) q) (fun r s' z => ?_) fun _ _ z => z
  obtain ⟨w, H', I', rw', q'⟩ := id z
  exact rel_back rw' z

/-- ~a -/
def rUno (C : Addr) (sp : Sp) : V → Hp → VK → Prop := fun x H Q => ∃ a dx fs, x = .ref a ∧ H a = some (.ins C dx fs) ∧ sp [.ref a] H Q E0
theorem un_own (F : FnR X.prog X.w X.K X.mg X.base CX0 n f sp) (hr : Room n X.A) (hs : findIn X.K (.ref C) "__invert__" = some (some (.ref f))) (hf : isFn X.K (.ref f) = true) :
    UnR X (unaryOp .Invert) (rUno C sp) := by
  intro pins s σ H x v Q I rx h
  obtain ⟨a, dx, fs, rfl, ha, q⟩ := h
  cases rx
  obtain ⟨oa, ja⟩ := inst_of I ha
  obtain ⟨m, hF⟩ := I.fr
  exact ksp_inv hF I.ok.mod.kin ja hs hf (call_at F (sub0 hr) I (.cons (relR _) .nil) q)

/-- x in a, x not in a -/
def rInO (C : Addr) (sp : Sp) (neg : Bool) : R2 := fun x y H Q => ∃ b dy gs, y = .ref b ∧ H b = some (.ins C dy gs) ∧ sp [.ref b, x] H (fun v H' => ∃ k, v = .bl k ∧ Q (.bl (if neg then !k else k)) H') E0
theorem op_inO (F : FnR X.prog X.w X.K X.mg X.base CX0 n f sp) (hr : Room n X.A) (hs : findIn X.K (.ref C) "__contains__" = some (some (.ref f))) (hf : isFn X.K (.ref f) = true) :
    OpR X (compareOp .In) (rInO C sp false) := by
  intro pins s σ H x y v u Q I rx ry h
  obtain ⟨b, dy, gs, rfl, hb, q⟩ := h
  cases ry
  obtain ⟨ob, jb⟩ := inst_of I hb
  obtain ⟨m, hF⟩ := I.fr
  refine in_K hF I.ok.mod.kin jb hs hf ?_
  refine wpAny_mono (call_at F (sub0 hr) I (.cons (relR _) (.cons rx .nil)) q) (fun r s' z => ?_) fun _ _ z => z
  obtain ⟨w, H', I', rw', k, rfl, q'⟩ := z
  cases rw'
  exact wpAny_truthy_bool ⟨_, H', I', relB _, q'⟩
theorem op_notInO (F : FnR X.prog X.w X.K X.mg X.base CX0 n f sp) (hr : Room n X.A) (hs : findIn X.K (.ref C) "__contains__" = some (some (.ref f))) (hf : isFn X.K (.ref f) = true) :
    OpR X (compareOp .NotIn) (rInO C sp true) := by
  intro pins s σ H x y v u Q I rx ry h
  obtain ⟨b, dy, gs, rfl, hb, q⟩ := h
  cases ry
  obtain ⟨ob, jb⟩ := inst_of I hb
  obtain ⟨m, hF⟩ := I.fr
  refine notIn_K hF I.ok.mod.kin jb hs hf ?_
  refine wpAny_mono (call_at F (sub0 hr) I (.cons (relR _) (.cons rx .nil)) q) (fun r s' z => ?_) fun _ _ z => z
  obtain ⟨w, H', I', rw', k, rfl, q'⟩ := z
  cases rw'
  exact wpAny_truthy_bool ⟨_, H', I', relB _, q'⟩

/-- a == y, a an instance of C with its own ==, y anything of a known type that is no subclass of C -/
def rEqO (K : Frag) (C : Addr) (sp : Sp) : R2 := fun x y H Q => ∃ a dx fs t, x = .ref a ∧ H a = some (.ins C dx fs) ∧ TyX K H y t ∧ notFirst K C t = true ∧ sp [.ref a, y] H (fun v H' => ∃ k, v = .bl k ∧ Q (.bl k) H') E0
theorem op_eqO (F : FnR X.prog X.w X.K X.mg X.base CX0 n f sp) (hr : Room n X.A) (hs : findIn X.K (.ref C) "__eq__" = some (some (.ref f))) (hf : isFn X.K (.ref f) = true) :
    OpR X (compareOp .Eq) (rEqO X.K C sp) := by
  intro pins s σ H x y v u Q I rx ry h
  obtain ⟨a, dx, fs, t, rfl, ha, ty, nf, q⟩ := h
  cases rx
  obtain ⟨oa, ja⟩ := inst_of I ha
  obtain ⟨m, hF⟩ := I.fr
  obtain ⟨P, kx, hp, _⟩ := kit_of I ry ty
  show wpAny (model X.prog X.w) X.A (richCompare .Eq (.ref a) u) (EP X pins σ Q) X.xe s
  refine cmp_K (op := .Eq) hr.units0 hF I.ok.mod.kin ja (kx.ty _ _ I.kIn hp) nf hs hf ?_
  refine wpAny_mono (call_at F (sub0 hr) I (.cons (relR _) (.cons ry .nil)) q) (fun r s' z => ?_) fun _ _ z => z
  obtain ⟨w, H', I', rw', k, rfl, q'⟩ := z
  cases rw'
  exact ⟨_, H', I', relB _, q'⟩

/-! ### a != y: object.__ne__ turns the own == round -/
theorem ifBoundB {M : Model} {A : Around} {E : Value → Shared → Prop} {s : Shared} {K : Frag} {x : Addr} {ox : Obj} {od : Option Obj} {name : Str} {id : String} {args : List Value} {Q : Option Value → Shared → Prop} (Xk : K.In s.heap) (I : InstAt s.heap x ox C od)
    (hs : findIn K (.ref C) name = some (some (.builtin id))) (hb : ∀ self, bindSpecial (.builtin id) self = pure (.builtin id, [self]))
    (h : wpAny M A (call (.builtin id) (.ref x :: args)) (fun v => Q (some v)) E s) : wpAny M A (callSpecialIfBound? (.ref x) name args) Q E s := by
  simp only [callSpecialIfBound?, bindSpecialIfBound?]
  refine wpAny_holding (wpAny_bind (wpAny_bind (wpAny_bind (I.type.here ((looks_findIn Xk hs).here ?_)))))
  simp only [hb]
  have fin : wpAny M A (call (.builtin id) ([.ref x] ++ args) >>= fun v => pure (some v)) Q E s :=
    wpAny_bind (wpAny_mono h (fun v s' z => wpAny_pure z) fun _ _ z => z)
  refine wpAny_bind (wpAny_askSetting (wpAny_ite ?_))
  split
  · exact wpAny_bind (wpAny_pure (wpAny_pure fin))
  · exact wpAny_tryCatch (wpAny_bind (wpAny_pure (wpAny_pure fin)))

theorem call_ne {pins : List (Addr × Obj)} {s : Shared} {σ : L2.St} {H : Hp} {a dx : Addr} {fs : List (Str × V)} {y : V} {u : Value} {Q : VK} {E : Value → Shared → Prop} {A : Around} (F : FnR X.prog X.w X.K X.mg X.base CX0 n f sp) (sb : Sub X (n + 1) A)
    (hs : findIn X.K (.ref C) "__eq__" = some (some (.ref f))) (hf : isFn X.K (.ref f) = true) (hob : subIn X.K (.ref C) (.type "object") = some true)
    (I : Inv X pins σ H s) (ha : H a = some (.ins C dx fs)) (ry : RelV y u) (q : sp [.ref a, y] H (fun v H' => ∃ k, v = .bl k ∧ Q (.bl (!k)) H') E0) :
    wpAny (model X.prog X.w) A (call (.builtin "object.__ne__") [.ref a, u]) (EP X pins σ fun v H' => (∃ k, v = .bl k) ∧ Q v H') E s := by
  obtain ⟨oa, ja⟩ := inst_of I ha
  have li : Looks (model X.prog X.w) s.heap (isInstance (.ref a) (.type "object")) true := ja.type.andThen (looks_subIn I.kIn hob)
  refine wpAny_call (codeAny_call_builtin PySem.F.cmp_object.ne.plain PySem.F.cmpEntry_ne (check_slot PySem.F.cmpKind_ne PySem.F.cmpSplit_ne li (PySem.F.cmpArgs_ne _ _) ?_))
  have body : wpAny (model X.prog X.w) A.in1 (Builtin.«object.__ne__» ⟨[.ref a, u], []⟩) (fun fin s' => ∃ v, fin = .done (.ret v) ∧ EP X pins σ (fun v H' => (∃ k, v = .bl k) ∧ Q v H') v s') (fun _ _ => False) s := by
    unfold Builtin.«object.__ne__»
    have hu : A.in1.units < cLine := sb.in1.room.units0
    refine wpAny_bind (wpAny_pure ?_)
    dsimp only
    refine wpAny_bind (wpAny_cRoomFor hu ?_)
    refine wpAny_bind (ifBound_K I.kIn ja hs hf (wpAny_mono (call_at F sb.in1 I (.cons (relR _) (.cons ry .nil)) q) (fun r s' z => ?_) fun _ _ z => z))
    obtain ⟨w, H', I', rw', k, rfl, q'⟩ := z
    cases rw'
    dsimp only
    refine wpAny_bind (wpAny_truthy_bool ?_)
    exact wpAny_pure ⟨_, rfl, _, H', I', relB _, ⟨_, rfl⟩, q'⟩
  refine wpAny_mono body (fun fin s' z => ?_) fun _ _ z => z.elim
  obtain ⟨v, rfl, z⟩ := z
  exact z
end
end Spk

set_option Elab.async false
set_option linter.all false
set_option maxRecDepth 100000
set_option maxHeartbeats 2000000
namespace Spk
open PySem PySem.Spec PyProof.Rows PySem.W L2
open AutoSeq1 (wpAny_loadPart')
open MeetsSeq MeetsSeq2 MeetsSeq3 SeqRoads2

/-! ## built-in == and != decline an instance of an own class -/
section
variable {prog : Program} {w : World} {x C dx : Addr}
theorem int_eq_dec (b : Int) (u : Tok) : Meets (Builtin.«int.__eq__» ⟨[.int b u, .ref x], []⟩) (fun _ R s => s.heap.get? x = some (instObj C dx) ∧ R (.ok (.ret .notImplemented)) s) :=
  .of_wp fun prog w A R s h => by obtain ⟨hp, g, d, tk, os⟩ := s; obtain ⟨hl, h⟩ := h; unfold instObj at hl; wp_walk using wpAny_loadPart' hl, wpAny_load hl; exact ⟨_, rfl, h⟩
theorem int_ne_dec (b : Int) (u : Tok) : Meets (Builtin.«int.__ne__» ⟨[.int b u, .ref x], []⟩) (fun _ R s => s.heap.get? x = some (instObj C dx) ∧ R (.ok (.ret .notImplemented)) s) :=
  .of_wp fun prog w A R s h => by obtain ⟨hp, g, d, tk, os⟩ := s; obtain ⟨hl, h⟩ := h; unfold instObj at hl; wp_walk using wpAny_loadPart' hl, wpAny_load hl; exact ⟨_, rfl, h⟩
theorem bool_eq_dec (b : Bool) : Meets (Builtin.«int.__eq__» ⟨[.bool b, .ref x], []⟩) (fun _ R s => s.heap.get? x = some (instObj C dx) ∧ R (.ok (.ret .notImplemented)) s) :=
  .of_wp fun prog w A R s h => by obtain ⟨hp, g, d, tk, os⟩ := s; obtain ⟨hl, h⟩ := h; unfold instObj at hl; wp_walk using wpAny_loadPart' hl, wpAny_load hl; exact ⟨_, rfl, h⟩
theorem bool_ne_dec (b : Bool) : Meets (Builtin.«int.__ne__» ⟨[.bool b, .ref x], []⟩) (fun _ R s => s.heap.get? x = some (instObj C dx) ∧ R (.ok (.ret .notImplemented)) s) :=
  .of_wp fun prog w A R s h => by obtain ⟨hp, g, d, tk, os⟩ := s; obtain ⟨hl, h⟩ := h; unfold instObj at hl; wp_walk using wpAny_loadPart' hl, wpAny_load hl; exact ⟨_, rfl, h⟩
theorem str_eq_dec (b : Str) (u : Tok) : Meets (Builtin.«str.__eq__» ⟨[.str b u, .ref x], []⟩) (fun _ R s => s.heap.get? x = some (instObj C dx) ∧ R (.ok (.ret .notImplemented)) s) :=
  .of_wp fun prog w A R s h => by obtain ⟨hp, g, d, tk, os⟩ := s; obtain ⟨hl, h⟩ := h; unfold instObj at hl; wp_walk using wpAny_loadPart' hl, wpAny_load hl; exact ⟨_, rfl, h⟩
theorem str_ne_dec (b : Str) (u : Tok) : Meets (Builtin.«str.__ne__» ⟨[.str b u, .ref x], []⟩) (fun _ R s => s.heap.get? x = some (instObj C dx) ∧ R (.ok (.ret .notImplemented)) s) :=
  .of_wp fun prog w A R s h => by obtain ⟨hp, g, d, tk, os⟩ := s; obtain ⟨hl, h⟩ := h; unfold instObj at hl; wp_walk using wpAny_loadPart' hl, wpAny_load hl; exact ⟨_, rfl, h⟩
end

/-- values of built-in kinds that an instance is compared with -/
inductive Odd (H : Hp) : V → String → Prop where
  | non : Odd H .non "NoneType"
  | bl (b : Bool) : Odd H (.bl b) "bool"
  | int (i : Int) : Odd H (.int i) "int"
  | str (x : Str) : Odd H (.str x) "str"
  | lst {a : Addr} {xs : List V} (h : H a = some (.lst xs)) : Odd H (.ref a) "list"
  | tup {a : Addr} {xs : List V} (h : H a = some (.tup xs)) : Odd H (.ref a) "tuple"
theorem Odd.ty {K : Frag} {H : Hp} {y : V} {T : String} (h : Odd H y T) : TyX K H y (.type T) := by
  cases h with
  | non => exact .base .non
  | bl b => exact .base (.bl b)
  | int i => exact .base (.int i)
  | str x => exact .base (.str x)
  | lst h => exact .base (.lst h)
  | tup h => exact .base (.tup h)

/-- what the text says of a class: it is over no built-in type -/
structure Bare (K : Frag) (C : Addr) : Prop where
  o : subIn K (.ref C) (.type "object") = some true
  n : subIn K (.ref C) (.type "NoneType") = some false
  b : subIn K (.ref C) (.type "bool") = some false
  i : subIn K (.ref C) (.type "int") = some false
  s : subIn K (.ref C) (.type "str") = some false
  l : subIn K (.ref C) (.type "list") = some false
  t : subIn K (.ref C) (.type "tuple") = some false
theorem Bare.odd {K : Frag} {C : Addr} {H : Hp} {y : V} {T : String} (B : Bare K C) (h : Odd H y T) : subIn K (.ref C) (.type T) = some false := by
  cases h with
  | non => exact B.n
  | bl b => exact B.b
  | int i => exact B.i
  | str x => exact B.s
  | lst h => exact B.l
  | tup h => exact B.t

section
variable {X : Cx} {pins : List (Addr × Obj)} {s : Shared} {σ : L2.St} {H : Hp} {a C dx : Addr} {fs : List (Str × V)} {y : V} {u : Value} {T : String} {A : Around} {E : Value → Shared → Prop} {Q : Option Value → Shared → Prop}
theorem list_dec {l : Addr} {T : String} {name : Str} {id : String} {B : Builtin} (I : Inv X pins σ H s) (ha : H a = some (.ins C dx fs)) (hno : subIn X.K (.ref C) (.type T) = some false) (slot : Slot T name id) (hT : s.TypeIs (.ref l) T)
    (entry : entryFor table id = some B) (args : argsOk id ⟨[.ref l, .ref a], []⟩)
    (hB : ∀ (A : Around) (P : PySem.Fin → Shared → Prop) (E : Value → Shared → Prop), Looks (model X.prog X.w) s.heap (isInstance (.ref a) (.type T)) false → P (.done (.ret .notImplemented)) s → wpAny (model X.prog X.w) A (B ⟨[.ref l, .ref a], []⟩) P E s)
    (q : Q none s) : wpAny (model X.prog X.w) A (tryCompare (.ref l) name (.ref a)) Q E s := by
  obtain ⟨oa, ja⟩ := inst_of I ha
  have li : Looks (model X.prog X.w) s.heap (isInstance (.ref a) (.type T)) false := ja.type.andThen (looks_subIn I.kIn hno)
  refine wpAny_tryCompare_declines hT slot ?_
  refine GQ.call_here slot hT entry args ?_
  exact hB _ _ _ li ⟨rfl, q⟩
theorem try_dec_eq (B : Bare X.K C) (I : Inv X pins σ H s) (ha : H a = some (.ins C dx fs)) (o : Odd H y T) (ry : RelV y u) (q : Q none s) : wpAny (model X.prog X.w) A (tryCompare u "__eq__" (.ref a)) Q E s := by
  obtain ⟨oa, ja⟩ := inst_of I ha
  cases o with
  | non =>
    cases ry
    exact wpAny_tryCompare_declines (T := "NoneType") rfl PySem.F.slot_NoneType_eq (call_gives PySem.F.slot_NoneType_eq rfl PySem.F.entry_NoneType_eq (PySem.F.args_NoneType_eq_2 _ _) (SeqAt.NoneType___eq___none_ref_0 a) (show _ ∧ _ from ⟨rfl, q⟩))
  | bl b =>
    cases ry
    exact wpAny_tryCompare_declines (T := "bool") rfl PySem.F.slot_bool_eq (call_meets PySem.F.slot_bool_eq rfl PySem.F.entry_int_eq (PySem.F.args_int_eq_2 _ _) (bool_eq_dec (C := C) (dx := dx) b) ⟨ja.at_, rfl, q⟩)
  | int i =>
    obtain ⟨t, rfl⟩ := ry
    exact wpAny_tryCompare_declines (T := "int") (typeIs_int s i t) PySem.F.slot_int_eq (call_meets PySem.F.slot_int_eq (typeIs_int s i t) PySem.F.entry_int_eq (PySem.F.args_int_eq_2 _ _) (int_eq_dec (C := C) (dx := dx) i t) ⟨ja.at_, rfl, q⟩)
  | str x =>
    obtain ⟨t, rfl⟩ := ry
    exact wpAny_tryCompare_declines (T := "str") (typeIs_str s x t) PySem.F.slot_str_eq (call_meets PySem.F.slot_str_eq (typeIs_str s x t) PySem.F.entry_str_eq (PySem.F.args_str_eq_2 _ _) (str_eq_dec (C := C) (dx := dx) x t) ⟨ja.at_, rfl, q⟩)
  | lst h =>
    cases ry
    obtain ⟨_, its, k, _, e⟩ := (show ObjOk X.prog X.w H s.heap _ (.lst _) from I.hok _ _ h)
    refine list_dec I ha B.l PySem.F.slot_list_eq ⟨_, e, rfl⟩ PySem.F.entry_list_eq (PySem.F.args_list_eq_2 _ _) (fun A P E li q => ?_) q
    obtain ⟨hp, g, d, tk, os⟩ := s
    wp_walk using li.here
    exact q
  | tup h =>
    cases ry
    obtain ⟨_, its, _, o, e, c⟩ := (show ObjOk X.prog X.w H s.heap _ (.tup _) from I.hok _ _ h)
    refine list_dec I ha B.t PySem.F.slot_tuple_eq ⟨_, e, c.1⟩ PySem.F.entry_tuple_eq (PySem.F.args_tuple_eq_2 _ _) (fun A P E li q => ?_) q
    obtain ⟨hp, g, d, tk, os⟩ := s
    wp_walk using li.here
    exact q
theorem try_dec_ne (B : Bare X.K C) (I : Inv X pins σ H s) (ha : H a = some (.ins C dx fs)) (o : Odd H y T) (ry : RelV y u) (q : Q none s) : wpAny (model X.prog X.w) A (tryCompare u "__ne__" (.ref a)) Q E s := by
  obtain ⟨oa, ja⟩ := inst_of I ha
  cases o with
  | non =>
    cases ry
    exact wpAny_tryCompare_declines (T := "NoneType") rfl PySem.F.slot_NoneType_ne (call_gives PySem.F.slot_NoneType_ne rfl PySem.F.entry_NoneType_ne (PySem.F.args_NoneType_ne_2 _ _) (SeqAt.NoneType___ne___none_ref_0 a) (show _ ∧ _ from ⟨rfl, q⟩))
  | bl b =>
    cases ry
    exact wpAny_tryCompare_declines (T := "bool") rfl PySem.F.slot_bool_ne (call_meets PySem.F.slot_bool_ne rfl PySem.F.entry_int_ne (PySem.F.args_int_ne_2 _ _) (bool_ne_dec (C := C) (dx := dx) b) ⟨ja.at_, rfl, q⟩)
  | int i =>
    obtain ⟨t, rfl⟩ := ry
    exact wpAny_tryCompare_declines (T := "int") (typeIs_int s i t) PySem.F.slot_int_ne (call_meets PySem.F.slot_int_ne (typeIs_int s i t) PySem.F.entry_int_ne (PySem.F.args_int_ne_2 _ _) (int_ne_dec (C := C) (dx := dx) i t) ⟨ja.at_, rfl, q⟩)
  | str x =>
    obtain ⟨t, rfl⟩ := ry
    exact wpAny_tryCompare_declines (T := "str") (typeIs_str s x t) PySem.F.slot_str_ne (call_meets PySem.F.slot_str_ne (typeIs_str s x t) PySem.F.entry_str_ne (PySem.F.args_str_ne_2 _ _) (str_ne_dec (C := C) (dx := dx) x t) ⟨ja.at_, rfl, q⟩)
  | lst h =>
    cases ry
    obtain ⟨_, its, k, _, e⟩ := (show ObjOk X.prog X.w H s.heap _ (.lst _) from I.hok _ _ h)
    refine list_dec I ha B.l PySem.F.slot_list_ne ⟨_, e, rfl⟩ PySem.F.entry_list_ne (PySem.F.args_list_ne_2 _ _) (fun A P E li q => ?_) q
    obtain ⟨hp, g, d, tk, os⟩ := s
    wp_walk using li.here
    exact q
  | tup h =>
    cases ry
    obtain ⟨_, its, _, o, e, c⟩ := (show ObjOk X.prog X.w H s.heap _ (.tup _) from I.hok _ _ h)
    refine list_dec I ha B.t PySem.F.slot_tuple_ne ⟨_, e, c.1⟩ PySem.F.entry_tuple_ne (PySem.F.args_tuple_ne_2 _ _) (fun A P E li q => ?_) q
    obtain ⟨hp, g, d, tk, os⟩ := s
    wp_walk using li.here
    exact q
end

/-! ### the comparison itself -/
section
variable {X : Cx} {n : Nat} {C f : Addr} {sp : Sp}
theorem rc_right {op : CmpOp} {M : Model} {A : Around} {E : Value → Shared → Prop} {s : Shared} {u b : Value} {T : String} {Q : Value → Shared → Prop} (h1 : oneThing? op u b = none) (hu : A.units < cLine)
    (lu : Looks M s.heap (typeOf u) (.type T)) (lb : Looks M s.heap (typeOf b) (.ref C)) (ls : Looks M s.heap (isSubtype (.ref C) (.type T)) false)
    (d : ∀ Q' : Option Value → Shared → Prop, Q' none s → wpAny M A (tryCompare u (cmpInfo op).2.1 b) Q' E s)
    (h : wpAny M A (tryCompare b (cmpInfo op).2.2 u) (fun r s' => ∃ v, r = some v ∧ Q v s') E s) : wpAny M A (richCompare op u b) Q E s := by
  unfold richCompare
  simp only [h1]
  refine wpAny_holding (wpAny_bind (wpAny_cRoomFor hu ?_))
  refine wpAny_bind (lu.here (wpAny_bind (lb.here ?_)))
  rw [if_pos (by simp)]
  refine wpAny_bind (ls.here ?_)
  simp only [Bool.false_eq_true, if_false]
  refine wpAny_bind (d _ ?_)
  simp only [Bool.not_false, if_true]
  refine wpAny_bind (wpAny_mono h (fun r s' z => ?_) fun _ _ z => z)
  obtain ⟨v, rfl, q⟩ := z
  exact wpAny_pure q
theorem rc_left {op : CmpOp} {M : Model} {A : Around} {E : Value → Shared → Prop} {s : Shared} {a b tb : Value} {Q : Value → Shared → Prop} (h1 : oneThing? op a b = none) (hu : A.units < cLine)
    (la : Looks M s.heap (typeOf a) (.ref C)) (lb : Looks M s.heap (typeOf b) tb) (ls : tb = .ref C ∨ Looks M s.heap (isSubtype tb (.ref C)) false)
    (h : wpAny M A (tryCompare a (cmpInfo op).2.1 b) (fun r s' => ∃ v, r = some v ∧ Q v s') E s) : wpAny M A (richCompare op a b) Q E s := by
  unfold richCompare
  simp only [h1]
  refine wpAny_holding (wpAny_bind (wpAny_cRoomFor hu ?_))
  refine wpAny_bind (la.here (wpAny_bind (lb.here ?_)))
  have go : ∀ k : Sem Bool, Looks M s.heap k false → wpAny M A (do
      let rightFirst ← k
      if rightFirst then
        if let some v ← tryCompare b (cmpInfo op).2.2 a then rule "compare.subclass-reflected-first"; return v
      if let some v ← tryCompare a (cmpInfo op).2.1 b then return v
      if !rightFirst then
        if let some v ← tryCompare b (cmpInfo op).2.2 a then return v
      match op with
      | .Eq => rule "compare.eq-identity"; return .bool (← isSame a b)
      | .NotEq => rule "compare.ne-identity"; return .bool (!(← isSame a b))
      | _ =>
        rule "compare.unsupported"
        raiseError "TypeError" s!"'{(cmpInfo op).1}' not supported between instances of '{← typeNameOf a}' and '{← typeNameOf b}'") Q E s := by
    intro k lk
    refine wpAny_bind (lk.here ?_)
    simp only [Bool.false_eq_true, if_false]
    refine wpAny_bind (wpAny_mono h (fun r s' z => ?_) fun _ _ z => z)
    obtain ⟨v, rfl, q⟩ := z
    exact wpAny_pure q
  rcases ls with rfl | ls
  · rw [if_neg (by simp)]
    exact go _ .now
  · by_cases e : (Value.ref C != tb) = true
    · rw [if_pos e]
      exact go _ ls
    · rw [if_neg e]
      exact go _ .now

theorem try_ne {pins : List (Addr × Obj)} {s : Shared} {σ : L2.St} {H : Hp} {a dx : Addr} {fs : List (Str × V)} {y : V} {u : Value} {Q : VK} {E : Value → Shared → Prop} (F : FnR X.prog X.w X.K X.mg X.base CX0 n f sp) (hr : Room (n + 1) X.A)
    (hs : findIn X.K (.ref C) "__eq__" = some (some (.ref f))) (hn : findIn X.K (.ref C) "__ne__" = some (some (.builtin "object.__ne__"))) (hf : isFn X.K (.ref f) = true) (B : Bare X.K C)
    (I : Inv X pins σ H s) (ha : H a = some (.ins C dx fs)) (ry : RelV y u) (q : sp [.ref a, y] H (fun v H' => ∃ k, v = .bl k ∧ Q (.bl (!k)) H') E0) :
    wpAny (model X.prog X.w) X.A (tryCompare (.ref a) "__ne__" u) (fun r s' => ∃ v, r = some v ∧ EP X pins σ Q v s') E s := by
  obtain ⟨oa, ja⟩ := inst_of I ha
  unfold tryCompare
  refine wpAny_bind (ifBoundB I.kIn ja hn PySem.F.cmp_object.ne.bind (wpAny_mono (call_ne F (sub0 hr) hs hf B.o I ha ry q) (fun v s' z => ?_) fun _ _ z => z))
  obtain ⟨w, H', I', rw', ⟨k, rfl⟩, q'⟩ := z
  cases rw'
  exact wpAny_pure ⟨_, rfl, _, H', I', relB _, q'⟩

/-- what the text says of a class with its own == and none of the other comparisons -/
structure OwnEq (K : Frag) (C f : Addr) : Prop where
  eq : findIn K (.ref C) "__eq__" = some (some (.ref f))
  ne : findIn K (.ref C) "__ne__" = some (some (.builtin "object.__ne__"))
  fn : isFn K (.ref f) = true
  bare : Bare K C

/-- a != y, a an instance of C -/
def rNeO (K : Frag) (C : Addr) (sp : Sp) : R2 := fun x y H Q => ∃ a dx fs t, x = .ref a ∧ H a = some (.ins C dx fs) ∧ TyX K H y t ∧ notFirst K C t = true ∧ sp [.ref a, y] H (fun v H' => ∃ k, v = .bl k ∧ Q (.bl (!k)) H') E0
theorem op_neO (F : FnR X.prog X.w X.K X.mg X.base CX0 n f sp) (hr : Room (n + 1) X.A) (O : OwnEq X.K C f) : OpR X (compareOp .NotEq) (rNeO X.K C sp) := by
  intro pins s σ H x y v u Q I rx ry h
  obtain ⟨a, dx, fs, t, rfl, ha, ty, nf, q⟩ := h
  cases rx
  obtain ⟨oa, ja⟩ := inst_of I ha
  obtain ⟨P, kx, hp, _⟩ := kit_of I ry ty
  show wpAny (model X.prog X.w) X.A (richCompare .NotEq (.ref a) u) (EP X pins σ Q) X.xe s
  refine rc_left (op := .NotEq) (C := C) (tb := t) (oneThing_ref ..) hr.units0 ja.type (kx.ty _ _ I.kIn hp) ?_ (try_ne F hr O.eq O.ne O.fn O.bare I ha ry q)
  rcases Bool.or_eq_true_iff.mp nf with e | e
  · exact .inl (beq_iff_eq.mp e)
  · exact .inr (looks_subIn I.kIn (beq_iff_eq.mp e))

/-- y == a, y != a, y of a built-in kind, a an instance of C -/
def rEqR (K : Frag) (C : Addr) (sp : Sp) : R2 := fun y x H Q => ∃ a dx fs T, x = .ref a ∧ H a = some (.ins C dx fs) ∧ Odd H y T ∧ sp [.ref a, y] H (fun v H' => ∃ k, v = .bl k ∧ Q (.bl k) H') E0
def rNeR (K : Frag) (C : Addr) (sp : Sp) : R2 := fun y x H Q => ∃ a dx fs T, x = .ref a ∧ H a = some (.ins C dx fs) ∧ Odd H y T ∧ sp [.ref a, y] H (fun v H' => ∃ k, v = .bl k ∧ Q (.bl (!k)) H') E0
theorem one_odd {op : CmpOp} {H : Hp} {y : V} {T : String} {u : Value} {a : Addr} (o : Odd H y T) (ry : RelV y u) : oneThing? op u (.ref a) = none := by
  cases o with
  | non => cases ry; rfl
  | bl b => cases ry; rfl
  | int i => obtain ⟨t, rfl⟩ := ry; rfl
  | str x => obtain ⟨t, rfl⟩ := ry; rfl
  | lst h => cases ry; exact oneThing_ref ..
  | tup h => cases ry; exact oneThing_ref ..
theorem op_eqR (F : FnR X.prog X.w X.K X.mg X.base CX0 n f sp) (hr : Room (n + 1) X.A) (O : OwnEq X.K C f) : OpR X (compareOp .Eq) (rEqR X.K C sp) := by
  intro pins s σ H y x u v Q I ry rx h
  obtain ⟨a, dx, fs, T, rfl, ha, o, q⟩ := h
  cases rx
  obtain ⟨oa, ja⟩ := inst_of I ha
  obtain ⟨P, kx, hp, _⟩ := kit_of I ry (o.ty (K := X.K))
  show wpAny (model X.prog X.w) X.A (richCompare .Eq u (.ref a)) (EP X pins σ Q) X.xe s
  refine rc_right (op := .Eq) (C := C) (T := T) (one_odd o ry) hr.units0 (kx.ty _ _ I.kIn hp) ja.type (looks_subIn I.kIn (O.bare.odd o)) (fun Q' z => try_dec_eq O.bare I ha o ry z) ?_
  unfold tryCompare
  refine wpAny_bind (ifBound_K I.kIn ja O.eq O.fn (wpAny_mono (call_at F (sub0 (hr.mono (Nat.le_succ _))) I (.cons (relR _) (.cons ry .nil)) q) (fun r s' z => ?_) fun _ _ z => z))
  obtain ⟨w, H', I', rw', k, rfl, q'⟩ := z
  cases rw'
  exact wpAny_pure ⟨_, rfl, _, H', I', relB _, q'⟩
theorem op_neR (F : FnR X.prog X.w X.K X.mg X.base CX0 n f sp) (hr : Room (n + 1) X.A) (O : OwnEq X.K C f) : OpR X (compareOp .NotEq) (rNeR X.K C sp) := by
  intro pins s σ H y x u v Q I ry rx h
  obtain ⟨a, dx, fs, T, rfl, ha, o, q⟩ := h
  cases rx
  obtain ⟨oa, ja⟩ := inst_of I ha
  obtain ⟨P, kx, hp, _⟩ := kit_of I ry (o.ty (K := X.K))
  show wpAny (model X.prog X.w) X.A (richCompare .NotEq u (.ref a)) (EP X pins σ Q) X.xe s
  exact rc_right (op := .NotEq) (C := C) (T := T) (one_odd o ry) hr.units0 (kx.ty _ _ I.kIn hp) ja.type (looks_subIn I.kIn (O.bare.odd o)) (fun Q' z => try_dec_ne O.bare I ha o ry z) (try_ne F hr O.eq O.ne O.fn O.bare I ha ry q)
end
end Spk

set_option Elab.async false
set_option linter.all false
set_option maxRecDepth 100000
set_option maxHeartbeats 2000000
namespace Spk
open PySem PySem.Spec PyProof.Rows PySem.W L2
open PySem.Sem (wp)

/-! ## bool(t) of a tuple, bool(a) and the truth of an instance by its own __bool__ -/
theorem bool_new_in {prog : Program} {w : World} (x : Value) : MeetsIn prog w (Builtin.«bool.__new__» ⟨[.type "bool", x], []⟩)
    (fun A R s => wpAny (model prog w) A.in1 (truthy x) (fun b s' => R (.ok (.ret (.bool b))) s') (fun e s' => R (.error e) s') s) := fun A R s h => by
  have f1 := F.conv_sub_bool
  obtain ⟨hp, g, d, tk, os⟩ := s
  repeat (any_goals (first | assumption | (with_reducible refine wpAny_bind (m := truthy x) (wpAny_mono h (fun b s' z => ?_) fun _ _ z => z)) | wp_step))
  all_goals first | exact ⟨_, rfl, z⟩ | exact z | skip

section
variable {X : Cx} {n : Nat} {C f : Addr} {sp : Sp}
theorem call_bool_by {A : Around} {E : Value → Shared → Prop} {s : Shared} {x : Value} {Q : Value → Shared → Prop} (h : wpAny (model X.prog X.w) A.in1.in1 (truthy x) (fun b s' => Q (.bool b) s') E s) :
    wpAny (model X.prog X.w) A (call (.type "bool") [x]) Q E s :=
  callType_newIn PySem.F.called_bool PySem.F.newNe_bool (PySem.F.typeCall_bool_1 x) (PySem.F.newCall_bool_1 x) (fun obj => PySem.F.args_object_init_2 obj x) PySem.F.entry_bool_new (bool_new_in x)
    (wpAny_mono h (fun b s' z => ⟨rfl, z⟩) fun _ _ z => z)

/-- bool(t), t a tuple -/
theorem call_boolT : CallR X (.type "bool") (fun xs H Q => ∃ (a : Addr) (zs : List V), xs = [.ref a] ∧ SqT X.K H a zs ∧ Q (.bl (!zs.isEmpty)) H) := by
  intro pins s σ H xs us Q I r h
  obtain ⟨a, zs, rfl, hq, q⟩ := h
  obtain rfl := Vals.ref1 r
  obtain ⟨its, rv, pl, hz⟩ := I.tuple hq
  have hl := line63
  have hlen := rv.length
  refine call_bool_by (truthy_tuple pl (by simp only [List.size_toArray]; omega) ?_)
  exact ⟨.bl (!zs.isEmpty), H, I.tok _, by rw [isEmpty_of rv]; rfl, q⟩

/-- the truth of an instance of C -/
def rTruO (C : Addr) (sp : Sp) : V → Hp → (Bool → Hp → Prop) → Prop := fun x H Q => ∃ a dx fs, x = .ref a ∧ H a = some (.ins C dx fs) ∧ sp [.ref a] H (fun v H' => ∃ k, v = .bl k ∧ Q k H') E0
theorem truthy_own {A : Around} {E : Value → Shared → Prop} {pins : List (Addr × Obj)} {s : Shared} {σ : L2.St} {H : Hp} {x : V} {u : Value} {Q : Bool → Hp → Prop} (F : FnR X.prog X.w X.K X.mg X.base CX0 n f sp) (sb : Sub X n A)
    (hs : findIn X.K (.ref C) "__bool__" = some (some (.ref f))) (hf : isFn X.K (.ref f) = true) (I : Inv X pins σ H s) (rx : RelV x u) (h : rTruO C sp x H Q) : wpAny (model X.prog X.w) A (truthy u) (TP X pins σ Q) E s := by
  obtain ⟨a, dx, fs, rfl, ha, q⟩ := h
  cases rx
  obtain ⟨oa, ja⟩ := inst_of I ha
  obtain ⟨m, hF⟩ := I.fr
  refine truthy_K hF I.ok.mod.kin ja hs hf (wpAny_mono (call_at F sb I (.cons (relR _) .nil) q) (fun r s' z => ?_) fun _ _ z => z)
  obtain ⟨w, H', I', rw', k, rfl, q'⟩ := z
  cases rw'
  exact ⟨H', I', q'⟩
/-- bool(a) -/
theorem call_boolO (F : FnR X.prog X.w X.K X.mg X.base CX0 n f sp) (hr : Room (n + 2) X.A) (hs : findIn X.K (.ref C) "__bool__" = some (some (.ref f))) (hf : isFn X.K (.ref f) = true) :
    CallR X (.type "bool") (fun xs H Q => ∃ x, xs = [x] ∧ rTruO C sp x H (fun k H' => Q (.bl k) H')) := by
  intro pins s σ H xs us Q I r h
  obtain ⟨x, rfl, h⟩ := h
  obtain ⟨u, rfl, ru⟩ := r.one
  refine call_bool_by (wpAny_mono (truthy_own F (Sub.in1 (Sub.in1 (sub0 hr))) hs hf I ru h) (fun b s' z => ?_) fun _ _ z => z)
  obtain ⟨H', I', q'⟩ := z
  exact ⟨_, H', I', relB _, q'⟩
end
end Spk

set_option linter.all false
namespace Spk
abbrev Stc := Option Int × Option Int
def has1 (s : Stc) (n : Int) : Bool := (match s.1 with | none => true | some l => decide (l ≤ n)) && (match s.2 with | none => true | some h => decide (n ≤ h))
def hasL (ss : List Stc) (n : Int) : Bool := ss.any fun s => has1 s n
def NE (s : Stc) : Prop := ∀ l h, s.1 = some l → s.2 = some h → l ≤ h
def Apart (a b : Stc) : Prop := ∃ h l, a.2 = some h ∧ b.1 = some l ∧ h + 1 < l
structure Canon (ps : List Stc) : Prop where
  ne : ∀ s, s ∈ ps → NE s
  ap : ps.Pairwise Apart
def touchB (hi lo : Option Int) : Bool := match lo, hi with
  | none, _ => true
  | _, none => true
  | some l, some h => decide (l ≤ h + 1)
def laterE (a b : Option Int) : Option Int := match a, b with
  | none, _ => none
  | _, none => none
  | some x, some y => some (if y > x then y else x)
def joinF (acc : List Stc) (s : Stc) : List Stc := match acc.getLast? with
  | none => acc ++ [s]
  | some p => if touchB p.2 s.1 = true then acc.dropLast ++ [(p.1, laterE p.2 s.2)] else acc ++ [s]
def lowLe (a b : Option Int) : Prop := match a, b with
  | none, _ => True
  | some _, none => False
  | some i, some j => i ≤ j
theorem has1_of {s : Stc} {n : Int} (h1 : ∀ k, s.1 = some k → k ≤ n) (h2 : ∀ k, s.2 = some k → n ≤ k) : has1 s n = true := by
  obtain ⟨l, r⟩ := s
  cases l <;> cases r <;> simp_all [has1]
theorem hasL_append (a b : List Stc) (n : Int) : hasL (a ++ b) n = (hasL a n || hasL b n) := by simp [hasL, List.any_append]
theorem hasL_one (s : Stc) (n : Int) : hasL [s] n = has1 s n := by simp [hasL]
theorem hasL_cons (s : Stc) (b : List Stc) (n : Int) : hasL (s :: b) n = (has1 s n || hasL b n) := by simp [hasL]
theorem hasL_nil (n : Int) : hasL [] n = false := rfl

theorem join_has (p s : Stc) (n : Int) (hp : NE p) (hs : NE s) (hl : lowLe p.1 s.1) (ht : touchB p.2 s.1 = true) : has1 (p.1, laterE p.2 s.2) n = (has1 p n || has1 s n) := by
  obtain ⟨pl, ph⟩ := p
  obtain ⟨sl, sh⟩ := s
  rw [Bool.eq_iff_iff]
  cases pl <;> cases ph <;> cases sl <;> cases sh <;> simp_all [has1, laterE, touchB, lowLe, NE]
  all_goals (try split)
  all_goals (try omega)
theorem join_ne (p s : Stc) (hp : NE p) : NE (p.1, laterE p.2 s.2) := by
  obtain ⟨pl, ph⟩ := p
  obtain ⟨sl, sh⟩ := s
  intro l h h1 h2
  cases ph <;> cases sh <;> simp_all [laterE]
  have := hp l _ rfl rfl
  split at h2 <;> omega
theorem notouch {p s : Stc} (h : touchB p.2 s.1 = false) : Apart p s := by
  obtain ⟨pl, ph⟩ := p
  obtain ⟨sl, sh⟩ := s
  cases ph <;> cases sl <;> simp_all [touchB, Apart]
theorem apart_trans {a p s : Stc} (h1 : Apart a p) (hp : NE p) (h2 : Apart p s) : Apart a s := by
  obtain ⟨h, l, e1, e2, q⟩ := h1
  obtain ⟨h', l', e3, e4, q'⟩ := h2
  have := hp l h' e2 e3
  exact ⟨h, l', e1, e4, by omega⟩
theorem canon_snoc {acc : List Stc} {p s : Stc} (h : Canon (acc ++ [p])) (hs : NE s) (ha : Apart p s) : Canon (acc ++ [p] ++ [s]) := by
  refine ⟨fun x hx => ?_, ?_⟩
  · rcases List.mem_append.mp hx with hx | hx
    · exact h.ne x hx
    · rw [List.mem_singleton.mp hx]; exact hs
  · refine List.pairwise_append.mpr ⟨h.ap, List.pairwise_singleton .., fun a ha' b hb => ?_⟩
    rw [List.mem_singleton.mp hb]
    rcases List.mem_append.mp ha' with q | q
    · exact apart_trans ((List.pairwise_append.mp h.ap).2.2 a q p (by simp)) (h.ne p (by simp)) ha
    · rw [List.mem_singleton.mp q]; exact ha
theorem canon_last {acc : List Stc} {p s : Stc} (h : Canon (acc ++ [p])) : Canon (acc ++ [(p.1, laterE p.2 s.2)]) := by
  refine ⟨fun x hx => ?_, ?_⟩
  · rcases List.mem_append.mp hx with hx | hx
    · exact h.ne x (List.mem_append_left _ hx)
    · rw [List.mem_singleton.mp hx]; exact join_ne p s (h.ne p (by simp))
  · refine List.pairwise_append.mpr ⟨(List.pairwise_append.mp h.ap).1, List.pairwise_singleton .., fun a ha b hb => ?_⟩
    rw [List.mem_singleton.mp hb]
    exact (List.pairwise_append.mp h.ap).2.2 a ha p (by simp)
/-- one step of the joining -/
theorem join_step {acc pre : List Stc} {s : Stc} (hc : Canon acc) (hm : ∀ n, hasL acc n = hasL pre n) (hl : ∀ a, a ∈ acc → lowLe a.1 s.1) (hs : NE s) :
    Canon (joinF acc s) ∧ (∀ n, hasL (joinF acc s) n = hasL (pre ++ [s]) n) ∧ ∀ a, a ∈ joinF acc s → a.1 = s.1 ∨ ∃ b, b ∈ acc ∧ a.1 = b.1 := by
  rcases List.eq_nil_or_concat acc with rfl | ⟨ac, p, rfl⟩
  · refine ⟨⟨fun x hx => ?_, ?_⟩, fun n => ?_, fun a ha => ?_⟩
    · have : x = s := by simpa [joinF] using hx
      rw [this]; exact hs
    · simp [joinF]
    · rw [hasL_append, ← hm n]; simp [joinF, hasL]
    · left
      have : a = s := by simpa [joinF] using ha
      rw [this]
  · simp only [List.concat_eq_append] at *
    have hg : (ac ++ [p]).getLast? = some p := by simp
    unfold joinF
    rw [hg]
    dsimp only
    by_cases ht : touchB p.2 s.1 = true
    · rw [if_pos ht, List.dropLast_concat]
      refine ⟨canon_last (s := s) hc, fun n => ?_, fun a ha => ?_⟩
      · have h1 := hm n
        rw [hasL_append, hasL_one] at h1
        rw [hasL_append, hasL_one, hasL_append, hasL_one, join_has p s n (hc.ne p (by simp)) hs (hl p (by simp)) ht, ← h1, Bool.or_assoc]
      · right
        rcases List.mem_append.mp ha with ha | ha
        · exact ⟨a, by simp [ha], rfl⟩
        · rw [List.mem_singleton.mp ha]; exact ⟨p, by simp, rfl⟩
    · rw [if_neg ht]
      have ht' : touchB p.2 s.1 = false := by simpa using ht
      refine ⟨canon_snoc hc hs (notouch ht'), fun n => ?_, fun a ha => ?_⟩
      · rw [hasL_append (ac ++ [p]) [s], hasL_append pre [s], hm n]
      · rcases List.mem_append.mp ha with ha | ha
        · right; exact ⟨a, ha, rfl⟩
        · left; rw [List.mem_singleton.mp ha]
theorem lowLe_trans {a b c : Option Int} (h1 : lowLe a b) (h2 : lowLe b c) : lowLe a c := by
  cases a <;> cases b <;> cases c <;> simp_all [lowLe]
  omega
/-- the invariant of the loop -/
structure Joins (acc pre rest : List Stc) : Prop where
  canon : Canon acc
  has : ∀ n, hasL acc n = hasL pre n
  low : ∀ a, a ∈ acc → ∀ s, s ∈ rest → lowLe a.1 s.1
theorem joins_step {acc pre rest : List Stc} {s : Stc} (h : Joins acc pre (s :: rest)) (hs : NE s) (hw : (s :: rest).Pairwise fun a b => lowLe a.1 b.1) : Joins (joinF acc s) (pre ++ [s]) rest := by
  obtain ⟨c, m, l⟩ := join_step h.canon h.has (fun a ha => h.low a ha s (by simp)) hs
  refine ⟨c, m, fun a ha t ht => ?_⟩
  have hst : lowLe s.1 t.1 := (List.pairwise_cons.mp hw).1 t ht
  rcases l a ha with e | ⟨b, hb, e⟩
  · rw [e]; exact hst
  · rw [e]; exact h.low b hb t (by simp [ht])

/-! ### one set, one list of parts -/
theorem canon_tail {s : Stc} {ps : List Stc} (h : Canon (s :: ps)) : Canon ps := ⟨fun x hx => h.ne x (by simp [hx]), (List.pairwise_cons.mp h.ap).2⟩
/-- nothing of the later parts lies at or ahead of the number behind the first one's end -/
theorem later_no {s : Stc} {ps : List Stc} (h : Canon (s :: ps)) {n e : Int} (he : s.2 = some e) (hn : n ≤ e + 1) : hasL ps n = false := by
  unfold hasL
  rw [List.any_eq_false]
  intro t ht
  obtain ⟨h', l, e1, e2, q⟩ := (List.pairwise_cons.mp h.ap).1 t ht
  rw [he] at e1
  cases e1
  simp only [has1, e2, Bool.and_eq_true, decide_eq_true_eq, not_and]
  intro h1
  omega
theorem no_later {s : Stc} {ps : List Stc} (h : Canon (s :: ps)) (he : s.2 = none) : ps = [] := by
  cases ps with
  | nil => rfl
  | cons t ps =>
    obtain ⟨h', l, e1, _⟩ := (List.pairwise_cons.mp h.ap).1 t (by simp)
    rw [he] at e1
    cases e1
/-- ahead of the first part's low end there is nothing -/
theorem ahead_no {s : Stc} {ps : List Stc} (h : Canon (s :: ps)) {n l : Int} (hl : s.1 = some l) (hn : n < l) : hasL (s :: ps) n = false := by
  rw [hasL_cons]
  have h1 : has1 s n = false := by
    simp only [has1, hl, Bool.and_eq_false_iff, decide_eq_false_iff_not]
    left
    omega
  rw [h1, Bool.false_or]
  cases e : s.2 with
  | none => rw [no_later h e]; rfl
  | some x =>
    have := h.ne s (by simp) l x hl e
    exact later_no h e (by omega)
theorem has_low {s : Stc} (h : NE s) {l : Int} (hl : s.1 = some l) : has1 s l = true := by
  cases e : s.2 with
  | none => simp [has1, hl, e]
  | some x =>
    have := h l x hl e
    simp [has1, hl, e, this]
theorem has_some {s : Stc} (h : NE s) (m : Int) : ∃ n, n ≤ m ∧ (s.1 = none → has1 s n = true) := by
  cases e : s.2 with
  | none => exact ⟨m, Int.le_refl _, fun h1 => by simp [has1, h1, e]⟩
  | some x =>
    by_cases q : m ≤ x
    · exact ⟨m, Int.le_refl _, fun h1 => by simp [has1, h1, e, q]⟩
    · exact ⟨x, by omega, fun h1 => by simp [has1, h1, e]⟩
theorem ne_has {s : Stc} (h : NE s) : ∃ n, has1 s n = true := by
  cases e : s.1 with
  | none =>
    obtain ⟨n, _, q⟩ := has_some h 0
    exact ⟨n, q e⟩
  | some l => exact ⟨l, has_low h e⟩
theorem low_same {s t : Stc} {ps qs : List Stc} (h : Canon (s :: ps)) (h' : Canon (t :: qs)) (e : ∀ n, hasL (s :: ps) n = hasL (t :: qs) n) : lowLe t.1 s.1 := by
  cases hs : s.1 with
  | none =>
    cases ht : t.1 with
    | none => trivial
    | some l =>
      obtain ⟨n, hn, q⟩ := has_some (h.ne s (by simp)) (l - 1)
      have h1 := e n
      rw [ahead_no h' ht (by omega), hasL_cons, q hs] at h1
      simp at h1
  | some a =>
    cases ht : t.1 with
    | none => trivial
    | some b =>
      by_cases q : b ≤ a
      · exact q
      · have h1 := e a
        rw [ahead_no h' ht (by omega), hasL_cons, has_low (h.ne s (by simp)) hs] at h1
        simp at h1
theorem lowLe_antisymm {a b : Option Int} (h1 : lowLe a b) (h2 : lowLe b a) : a = b := by
  cases a <;> cases b <;> simp_all [lowLe]
  omega
/-- behind the end of the first one there is a number that is not in it -/
theorem high_same {s t : Stc} {ps qs : List Stc} (h : Canon (s :: ps)) (h' : Canon (t :: qs)) (e : ∀ n, hasL (s :: ps) n = hasL (t :: qs) n) (hl : s.1 = t.1) {x : Int} (hx : s.2 = some x) : ∃ y, t.2 = some y ∧ y ≤ x := by
  have h1 := e (x + 1)
  have n1 : has1 s (x + 1) = false := by
    simp only [has1, hx, Bool.and_eq_false_iff, decide_eq_false_iff_not]
    right
    omega
  rw [hasL_cons, n1, later_no h hx (Int.le_refl _), hasL_cons] at h1
  have h2 : has1 t (x + 1) = false := by
    cases q : has1 t (x + 1) with
    | false => rfl
    | true => rw [q] at h1; simp at h1
  have low : ∀ l, t.1 = some l → l ≤ x + 1 := fun l hl' => by
    rw [← hl] at hl'
    have := h.ne s (by simp) l x hl' hx
    omega
  cases ht : t.2 with
  | none =>
    exfalso
    cases hl' : t.1 with
    | none => simp [has1, hl', ht] at h2
    | some l =>
      have := low l hl'
      simp [has1, hl', ht, this] at h2
  | some y =>
    refine ⟨y, rfl, ?_⟩
    by_cases q : y ≤ x
    · exact q
    · exfalso
      have q' : x + 1 ≤ y := by omega
      cases hl' : t.1 with
      | none => simp [has1, hl', ht, q'] at h2
      | some l =>
        have := low l hl'
        simp [has1, hl', ht, this, q'] at h2
theorem canon_unique : ∀ {ps qs : List Stc}, Canon ps → Canon qs → (∀ n, hasL ps n = hasL qs n) → ps = qs
  | [], [], _, _, _ => rfl
  | [], t :: qs, _, h', e => by
    obtain ⟨n, q⟩ := ne_has (h'.ne t (by simp))
    have := e n
    rw [hasL_cons, q] at this
    simp [hasL_nil] at this
  | s :: ps, [], h, _, e => by
    obtain ⟨n, q⟩ := ne_has (h.ne s (by simp))
    have := e n
    rw [hasL_cons, q] at this
    simp [hasL_nil] at this
  | s :: ps, t :: qs, h, h', e => by
    have hl : s.1 = t.1 := lowLe_antisymm (low_same h' h fun n => (e n).symm) (low_same h h' e)
    have hh : s.2 = t.2 := by
      cases hs : s.2 with
      | none =>
        cases ht : t.2 with
        | none => rfl
        | some y =>
          obtain ⟨z, q, _⟩ := high_same h' h (fun n => (e n).symm) hl.symm ht
          rw [hs] at q; cases q
      | some x =>
        obtain ⟨y, hy, q⟩ := high_same h h' e hl hs
        obtain ⟨z, hz, q'⟩ := high_same h' h (fun n => (e n).symm) hl.symm hy
        rw [hs] at hz
        cases hz
        rw [hy]
        congr 1
        omega
    have est : s = t := Prod.ext hl hh
    subst est
    refine congrArg _ (canon_unique (canon_tail h) (canon_tail h') fun n => ?_)
    cases hs : s.2 with
    | none => rw [no_later h hs, no_later h' hs]
    | some x =>
      by_cases q : n ≤ x + 1
      · rw [later_no h hs q, later_no h' hs q]
      · have n1 : has1 s n = false := by
          simp only [has1, hs, Bool.and_eq_false_iff, decide_eq_false_iff_not]
          right
          omega
        have := e n
        rwa [hasL_cons, hasL_cons, n1, Bool.false_or, Bool.false_or] at this

/-! ### the halving search -/
theorem search_low {ps : List Stc} (h : Canon ps) {m : Nat} {s : Stc} (hm : ps[m]? = some s) {l n : Int} (hl : s.1 = some l) (hn : n < l) {j : Nat} {t : Stc} (hj : m ≤ j) (ht : ps[j]? = some t) : has1 t n = false := by
  have hs := h.ne s (List.mem_of_getElem? hm)
  by_cases e : m = j
  · subst e
    rw [hm] at ht
    cases ht
    simp only [has1, hl, Bool.and_eq_false_iff, decide_eq_false_iff_not]
    left
    omega
  · obtain ⟨h1, h2, h3⟩ := List.getElem?_eq_some_iff.mp hm |>.elim fun a b => (⟨a, b, trivial⟩ : ∃ (a : m < ps.length) (_ : ps[m] = s), True)
    obtain ⟨g1, g2⟩ := List.getElem?_eq_some_iff.mp ht
    have := List.pairwise_iff_getElem.mp h.ap m j h1 g1 (by omega)
    rw [h2, g2] at this
    obtain ⟨x, y, e1, e2, q⟩ := this
    have := hs l x hl e1
    simp only [has1, e2, Bool.and_eq_false_iff, decide_eq_false_iff_not]
    left
    omega
theorem search_high {ps : List Stc} (h : Canon ps) {m : Nat} {s : Stc} (hm : ps[m]? = some s) {l n : Int} (hl : s.2 = some l) (hn : l < n) {j : Nat} {t : Stc} (hj : j ≤ m) (ht : ps[j]? = some t) : has1 t n = false := by
  have hs := h.ne s (List.mem_of_getElem? hm)
  by_cases e : j = m
  · subst e
    rw [hm] at ht
    cases ht
    simp only [has1, hl, Bool.and_eq_false_iff, decide_eq_false_iff_not]
    right
    omega
  · obtain ⟨h1, h2⟩ := List.getElem?_eq_some_iff.mp hm
    obtain ⟨g1, g2⟩ := List.getElem?_eq_some_iff.mp ht
    have := List.pairwise_iff_getElem.mp h.ap j m g1 h1 (by omega)
    rw [h2, g2] at this
    obtain ⟨x, y, e1, e2, q⟩ := this
    have := hs y l e2 hl
    simp only [has1, e1, Bool.and_eq_false_iff, decide_eq_false_iff_not]
    right
    omega

/-! ### the points at which two sets are looked at -/
def endsOf (s : Stc) : List Int := (match s.1 with | none => [] | some l => [l - 1, l, l + 1]) ++ (match s.2 with | none => [] | some h => [h - 1, h, h + 1])
def points (ss : List Stc) : List Int := [0, 1, -1, 10000000000000, -10000000000000] ++ ss.flatMap endsOf
/-- the cuts: the first numbers behind which something changes -/
def cutsOf (s : Stc) : List Int := (match s.1 with | none => [] | some l => [l]) ++ (match s.2 with | none => [] | some h => [h + 1])
def cuts (ss : List Stc) : List Int := ss.flatMap cutsOf
theorem cut_point {ss : List Stc} {c : Int} (h : c ∈ cuts ss) : c ∈ points ss ∧ c - 1 ∈ points ss := by
  obtain ⟨s, hs, hc⟩ := List.mem_flatMap.mp h
  have key : c ∈ endsOf s ∧ c - 1 ∈ endsOf s := by
    obtain ⟨l, r⟩ := s
    cases l <;> cases r <;> simp_all [cutsOf, endsOf] <;> omega
  exact ⟨List.mem_append_right _ (List.mem_flatMap.mpr ⟨s, hs, key.1⟩), List.mem_append_right _ (List.mem_flatMap.mpr ⟨s, hs, key.2⟩)⟩
theorem has_by_cuts {s : Stc} {n m : Int} (h : ∀ c, c ∈ cutsOf s → (c ≤ n ↔ c ≤ m)) : has1 s n = has1 s m := by
  obtain ⟨l, r⟩ := s
  rw [Bool.eq_iff_iff]
  cases l <;> cases r <;> simp_all [cutsOf, has1] <;> omega
theorem hasL_by_cuts {ss : List Stc} {n m : Int} (h : ∀ c, c ∈ cuts ss → (c ≤ n ↔ c ≤ m)) : hasL ss n = hasL ss m := by
  induction ss with
  | nil => rfl
  | cons s ss ih =>
    rw [hasL_cons, hasL_cons, has_by_cuts (s := s) fun c hc => h c (List.mem_flatMap.mpr ⟨s, by simp, hc⟩), ih fun c hc => h c ?_]
    obtain ⟨t, ht, hc⟩ := List.mem_flatMap.mp hc
    exact List.mem_flatMap.mpr ⟨t, by simp [ht], hc⟩
theorem greatest {l : List Int} {n : Int} (h : ∃ c, c ∈ l ∧ c ≤ n) : ∃ c, c ∈ l ∧ c ≤ n ∧ ∀ d, d ∈ l → d ≤ n → d ≤ c := by
  induction l with
  | nil => obtain ⟨c, hc, _⟩ := h; simp at hc
  | cons a l ih =>
    by_cases q : ∃ c, c ∈ l ∧ c ≤ n
    · obtain ⟨c, hc, hn, m⟩ := ih q
      by_cases qa : a ≤ n ∧ c ≤ a
      · refine ⟨a, by simp, qa.1, fun d hd hdn => ?_⟩
        rcases List.mem_cons.mp hd with rfl | hd
        · exact Int.le_refl _
        · have := m d hd hdn; omega
      · refine ⟨c, by simp [hc], hn, fun d hd hdn => ?_⟩
        rcases List.mem_cons.mp hd with rfl | hd
        · omega
        · exact m d hd hdn
    · obtain ⟨c, hc, hn⟩ := h
      rcases List.mem_cons.mp hc with rfl | hc
      · refine ⟨c, by simp, hn, fun d hd hdn => ?_⟩
        rcases List.mem_cons.mp hd with rfl | hd
        · exact Int.le_refl _
        · exact absurd ⟨d, hd, hdn⟩ q
      · exact absurd ⟨c, hc, hn⟩ q
theorem least {l : List Int} (h : l ≠ []) : ∃ c, c ∈ l ∧ ∀ d, d ∈ l → c ≤ d := by
  induction l with
  | nil => exact absurd rfl h
  | cons a l ih =>
    by_cases q : l = []
    · subst q
      exact ⟨a, by simp, fun d hd => by rw [List.mem_singleton.mp hd]; exact Int.le_refl _⟩
    · obtain ⟨c, hc, m⟩ := ih q
      by_cases qa : a ≤ c
      · refine ⟨a, by simp, fun d hd => ?_⟩
        rcases List.mem_cons.mp hd with rfl | hd
        · exact Int.le_refl _
        · have := m d hd; omega
      · refine ⟨c, by simp [hc], fun d hd => ?_⟩
        rcases List.mem_cons.mp hd with rfl | hd
        · omega
        · exact m d hd
/-- each number has a point that no stretch tells from it -/
theorem point_of (ss : List Stc) (n : Int) : ∃ m, m ∈ points ss ∧ ∀ c, c ∈ cuts ss → (c ≤ n ↔ c ≤ m) := by
  by_cases q : ∃ c, c ∈ cuts ss ∧ c ≤ n
  · obtain ⟨c, hc, hn, m⟩ := greatest q
    refine ⟨c, (cut_point hc).1, fun d hd => ⟨fun h => m d hd h, fun h => by omega⟩⟩
  · by_cases q0 : cuts ss = []
    · refine ⟨0, by simp [points], fun c hc => ?_⟩
      rw [q0] at hc
      simp at hc
    · obtain ⟨c, hc, m⟩ := least q0
      refine ⟨c - 1, (cut_point hc).2, fun d hd => ⟨fun h => absurd ⟨d, hd, h⟩ q, fun h => ?_⟩⟩
      have := m d hd
      omega
theorem cuts_append (a b : List Stc) : cuts (a ++ b) = cuts a ++ cuts b := by simp [cuts, List.flatMap_append]
/-- sets that agree at the points of both are the same -/
theorem agree_all {a b : List Stc} (h : ∀ m, m ∈ points (a ++ b) → hasL a m = hasL b m) (n : Int) : hasL a n = hasL b n := by
  obtain ⟨m, hm, hc⟩ := point_of (a ++ b) n
  rw [cuts_append] at hc
  rw [hasL_by_cuts (ss := a) fun c q => hc c (List.mem_append_left _ q), hasL_by_cuts (ss := b) fun c q => hc c (List.mem_append_right _ q)]
  exact h m hm
end Spk

set_option linter.all false
namespace Spk
/-! ### the gaps of a set's parts -/
def fromB (low : Option Int) (n : Int) : Bool := match low with
  | none => true
  | some c => decide (c ≤ n)
def gapAt (low first : Option Int) : List Stc := match first with
  | none => []
  | some a => [(low, some (a - 1))]
def gapsF : Option Int → List Stc → List Stc
  | low, [] => [(low, none)]
  | low, (first, last) :: ps => gapAt low first ++ match last with
    | none => []
    | some b => gapsF (some (b + 1)) ps
/-- all parts begin behind low -/
def Behind (low : Option Int) (ps : List Stc) : Prop := ∀ c, low = some c → ∀ s, s ∈ ps → ∃ a, s.1 = some a ∧ c < a
theorem behind_has {c : Int} {ps : List Stc} (h : Behind (some c) ps) {n : Int} (hn : hasL ps n = true) : c < n := by
  unfold hasL at hn
  obtain ⟨s, hs, h1⟩ := List.any_eq_true.mp hn
  obtain ⟨a, e, ca⟩ := h c rfl s hs
  obtain ⟨x, y⟩ := s
  cases e
  cases y <;> simp [has1] at h1 <;> omega
theorem Canon.tail {s : Stc} {ps : List Stc} (h : Canon (s :: ps)) : Canon ps := ⟨fun x hx => h.ne x (by simp [hx]), (List.pairwise_cons.mp h.ap).2⟩
structure GapsOk (low : Option Int) (ps : List Stc) : Prop where
  has : ∀ n, hasL (gapsF low ps) n = (fromB low n && !hasL ps n)
  canon : Canon (gapsF low ps)
  at_ : ∀ c, low = some c → ∀ g, g ∈ gapsF low ps → ∃ a, g.1 = some a ∧ c ≤ a
  len : (gapsF low ps).length ≤ ps.length + 1
theorem canon_single {s : Stc} (h : NE s) : Canon [s] := ⟨fun x hx => by rw [List.mem_singleton.mp hx]; exact h, List.pairwise_singleton ..⟩
theorem gaps_ok : ∀ (ps : List Stc) (low : Option Int), Canon ps → Behind low ps → GapsOk low ps
  | [], low, _, _ => by
    refine ⟨fun n => ?_, canon_single fun l h e1 e2 => ?_, fun c e g hg => ?_, Nat.le_refl _⟩
    · cases low <;> simp [gapsF, hasL, has1, fromB]
    · cases e2
    · rw [gapsF, List.mem_singleton] at hg
      subst hg e
      exact ⟨c, rfl, Int.le_refl _⟩
  | (first, none) :: ps, low, hc, hb => by
    have e : ps = [] := by
      cases ps with
      | nil => rfl
      | cons t ps =>
        obtain ⟨x, y, e1, _⟩ := (List.pairwise_cons.mp hc.ap).1 t (by simp)
        cases e1
    subst e
    cases first with
    | none =>
      refine ⟨fun n => ?_, ⟨fun s hs => ?_, .nil⟩, fun c e g hg => ?_, by simp [gapsF, gapAt]⟩
      · simp [gapsF, gapAt, hasL, has1]
      · simp [gapsF, gapAt] at hs
      · simp [gapsF, gapAt] at hg
    | some a =>
      have hlow : ∀ c, low = some c → c < a := fun c e => by
        obtain ⟨a', e', h⟩ := hb c e (some a, none) (by simp)
        cases e'
        exact h
      refine ⟨fun n => ?_, canon_single fun l h e1 e2 => ?_, fun c e g hg => ?_, by simp [gapsF, gapAt]⟩
      · rw [Bool.eq_iff_iff]
        cases low <;> simp [gapsF, gapAt, hasL, has1, fromB] <;> omega
      · cases e2
        have := hlow l e1
        omega
      · rw [gapsF, gapAt, List.append_nil, List.mem_singleton] at hg
        subst hg e
        exact ⟨c, rfl, Int.le_refl _⟩
  | (first, some b) :: ps, low, hc, hb => by
    have hb' : Behind (some (b + 1)) ps := fun c e s hs => by
      cases e
      obtain ⟨x, y, e1, e2, h⟩ := (List.pairwise_cons.mp hc.ap).1 s hs
      cases e1
      exact ⟨y, e2, h⟩
    have ih := gaps_ok ps (some (b + 1)) hc.tail hb'
    have hz := ih.len
    cases first with
    | none =>
      have el : low = none := by
        cases low with
        | none => rfl
        | some c =>
          obtain ⟨a', e', h⟩ := hb c rfl (none, some b) (by simp)
          cases e'
      subst el
      refine ⟨fun n => ?_, ih.canon, (fun c e => nomatch e), ?_⟩
      · show hasL (gapsF (some (b + 1)) ps) n = _
        rw [ih.has n, hasL_cons, Bool.eq_iff_iff]
        cases q : hasL ps n with
        | true => simp [fromB]
        | false =>
          simp [fromB, has1]
          omega
      · show (gapsF (some (b + 1)) ps).length ≤ _
        simp only [List.length_cons]
        omega
    | some a =>
      have hab : a ≤ b := hc.ne (some a, some b) (by simp) a b rfl rfl
      have hlow : ∀ c, low = some c → c < a := fun c e => by
        obtain ⟨a', e', h⟩ := hb c e (some a, some b) (by simp)
        cases e'
        exact h
      have eg : gapsF low ((some a, some b) :: ps) = (low, some (a - 1)) :: gapsF (some (b + 1)) ps := rfl
      refine ⟨fun n => ?_, ⟨fun s hs => ?_, ?_⟩, fun c e g hg => ?_, ?_⟩
      · rw [eg, hasL_cons, ih.has n, hasL_cons, Bool.eq_iff_iff]
        cases q : hasL ps n with
        | true =>
          have := behind_has hb' q
          cases low <;> simp [fromB, has1] <;> omega
        | false =>
          cases low with
          | none =>
            simp [fromB, has1]
            omega
          | some c =>
            have := hlow c rfl
            simp [fromB, has1]
            omega
      · rw [eg, List.mem_cons] at hs
        rcases hs with rfl | hs
        · intro l h e1 e2
          cases e2
          have := hlow l e1
          omega
        · exact ih.canon.ne s hs
      · rw [eg, List.pairwise_cons]
        refine ⟨fun g hg => ?_, ih.canon.ap⟩
        obtain ⟨x, e, hx⟩ := ih.at_ _ rfl g hg
        exact ⟨a - 1, x, rfl, e, by omega⟩
      · rw [eg, List.mem_cons] at hg
        subst e
        rcases hg with rfl | hg
        · exact ⟨c, rfl, Int.le_refl _⟩
        · obtain ⟨x, e, hx⟩ := ih.at_ _ rfl g hg
          have := hlow c rfl
          exact ⟨x, e, by omega⟩
      · rw [eg]
        simp only [List.length_cons]
        omega
theorem gaps_has {ps : List Stc} (h : Canon ps) (n : Int) : hasL (gapsF none ps) n = !hasL ps n := by
  rw [(gaps_ok ps none h fun _ e => nomatch e).has n]
  rfl
end Spk

set_option linter.all false
namespace Spk
/-! ### the first numbers of a set -/
/-- out holds the first c numbers of S, by f, from p on -/
structure Fst (S : Int → Bool) (f : Int → Int) (p : Int) (c : Nat) (out : List Int) : Prop where
  asc : out.Pairwise fun a b => f a < f b
  mem : ∀ n, n ∈ out → S n = true ∧ p ≤ f n
  len : out.length ≤ c
  full : ∀ n, S n = true → p ≤ f n → n ∉ out → out.length = c ∧ ∀ m, m ∈ out → f m < f n
theorem Fst.tail {S : Int → Bool} {f : Int → Int} {p : Int} {c : Nat} {x : Int} {a : List Int} (h : Fst S f p c (x :: a)) : Fst S f (f x + 1) (c - 1) a := by
  have hp := List.pairwise_cons.mp h.asc
  have hl := h.len
  rw [List.length_cons] at hl
  refine ⟨hp.2, fun n hn => ⟨(h.mem n (by simp [hn])).1, ?_⟩, by omega, fun n hs hn hna => ?_⟩
  · have := hp.1 n hn
    omega
  · have hx := (h.mem x (by simp)).2
    have hne : n ≠ x := fun e => by subst e; omega
    have h2 := h.full n hs (by omega) (by simp [hne, hna])
    rw [List.length_cons] at h2
    exact ⟨by omega, fun m hm => h2.2 m (by simp [hm])⟩
theorem fst_unique {S : Int → Bool} {f : Int → Int} (hf : ∀ a b, f a = f b → a = b) : ∀ {a b : List Int} {p : Int} {c : Nat}, Fst S f p c a → Fst S f p c b → a = b
  | [], [], _, _, _, _ => rfl
  | [], y :: b, p, c, ha, hb => by
    have h1 := hb.mem y (by simp)
    have h2 := ha.full y h1.1 h1.2 (by simp)
    have h3 := hb.len
    rw [List.length_cons] at h3
    have := h2.1
    simp at this
    omega
  | x :: a, [], p, c, ha, hb => by
    have h1 := ha.mem x (by simp)
    have h2 := hb.full x h1.1 h1.2 (by simp)
    have h3 := ha.len
    rw [List.length_cons] at h3
    have := h2.1
    simp at this
    omega
  | x :: a, y :: b, p, c, ha, hb => by
    have key : ∀ {x y : Int} {a b : List Int}, Fst S f p c (x :: a) → Fst S f p c (y :: b) → ¬ f x < f y := by
      intro x y a b ha hb lt
      have h1 := ha.mem x (by simp)
      have hn : x ∉ y :: b := fun z => by
        rcases List.mem_cons.mp z with e | z
        · subst e; omega
        · have := (List.pairwise_cons.mp hb.asc).1 x z
          omega
      have := (hb.full x h1.1 h1.2 hn).2 y (by simp)
      omega
    have e1 := key ha hb
    have e2 := key hb ha
    have e : x = y := hf x y (by omega)
    subst e
    rw [fst_unique hf ha.tail hb.tail]
theorem take_drop_mem {n : Int} {l : List Int} {c : Nat} (h : n ∈ l) (h' : n ∉ l.take c) : n ∈ l.drop c := by
  rw [← List.take_append_drop c l] at h
  exact (List.mem_append.mp h).resolve_left h'
theorem fst_take {S : Int → Bool} {f : Int → Int} {p : Int} {c m : Nat} {out : List Int} (h : Fst S f p m out) (hc : c ≤ m) : Fst S f p c (out.take c) := by
  have ha := h.asc
  refine ⟨ha.sublist (List.take_sublist c out), fun n hn => h.mem n (List.mem_of_mem_take hn), by rw [List.length_take]; omega, fun n hs hp hn => ?_⟩
  by_cases hno : n ∈ out
  · have hd := take_drop_mem hno hn
    rw [← List.take_append_drop c out] at ha
    have hl : c < out.length := by
      have := List.length_pos_of_mem hd
      rw [List.length_drop] at this
      omega
    exact ⟨by rw [List.length_take]; omega, fun k hk => (List.pairwise_append.mp ha).2.2 k hk n hd⟩
  · have h2 := h.full n hs hp hno
    exact ⟨by rw [List.length_take]; omega, fun k hk => h2.2 k (List.mem_of_mem_take hk)⟩
theorem sub_len : ∀ {a b : List Int}, a.Nodup → (∀ x, x ∈ a → x ∈ b) → a.length ≤ b.length
  | [], _, _, _ => Nat.zero_le _
  | x :: a, b, hn, h => by
    have hx := h x (by simp)
    have hn2 := List.nodup_cons.mp hn
    have := sub_len (a := a) (b := b.erase x) hn2.2 fun y hy => (List.mem_erase_of_ne (fun e => by subst e; exact hn2.1 hy)).mpr (h y (by simp [hy]))
    rw [List.length_erase_of_mem hx] at this
    have := List.length_pos_of_mem hx
    rw [List.length_cons]
    omega
theorem same_len {a b : List Int} (ha : a.Nodup) (hb : b.Nodup) (h : ∀ x, x ∈ a ↔ x ∈ b) : a.length = b.length :=
  Nat.le_antisymm (sub_len ha fun x hx => (h x).mp hx) (sub_len hb fun x hx => (h x).mpr hx)
theorem nodup_of_lt {f : Int → Int} {l : List Int} (h : l.Pairwise fun a b => f a < f b) : l.Nodup := h.imp fun {a b} h e => by subst e; omega

/-! ### the order 0, 1, -1, 2, -2 -/
def place (n : Int) : Int := if 0 < n then 2 * n - 1 else -2 * n
theorem place_inj (a b : Int) (h : place a = place b) : a = b := by
  unfold place at h
  split at h <;> split at h <;> omega
theorem place_nonneg (n : Int) : 0 ≤ place n := by
  unfold place
  split <;> omega
theorem sam_of {S : Int → Bool} {c : Nat} {up down l : List Int} (hu : Fst S id 0 c up) (hd : Fst (fun n => S (-n)) id 1 c down) (hp : l.Perm (up ++ down.map fun n => -n)) (hs : l.Pairwise fun a b => place a ≤ place b) :
    Fst S place 0 c (l.take c) := by
  have nu : up.Nodup := nodup_of_lt hu.asc
  have nd : (down.map fun n => -n).Nodup := by
    refine List.pairwise_map.mpr (hd.asc.imp fun {a b} h e => ?_)
    simp only [id] at h
    omega
  have dis : ∀ x, x ∈ up → ∀ y, y ∈ (down.map fun n => -n) → x ≠ y := fun x hx y hy e => by
    obtain ⟨z, hz, rfl⟩ := List.mem_map.mp hy
    have h1 := (hu.mem x hx).2
    have h2 := (hd.mem z hz).2
    simp only [id] at h1 h2
    omega
  have nl : l.Nodup := hp.nodup_iff.mpr (List.nodup_append.mpr ⟨nu, nd, dis⟩)
  have hl : l.Pairwise fun a b => place a < place b := by
    have := hs.and nl
    exact this.imp fun {a b} h => by
      have h2 : place a ≠ place b := fun e => h.2 (place_inj a b e)
      have := h.1
      omega
  have hmem : ∀ n, n ∈ l ↔ n ∈ up ∨ -n ∈ down := fun n => by
    rw [hp.mem_iff, List.mem_append]
    refine or_congr Iff.rfl ⟨fun h => ?_, fun h => List.mem_map.mpr ⟨-n, h, by omega⟩⟩
    obtain ⟨z, hz, rfl⟩ := List.mem_map.mp h
    rwa [Int.neg_neg]
  refine ⟨hl.sublist (List.take_sublist c l), fun n hn => ⟨?_, place_nonneg n⟩, by rw [List.length_take]; omega, fun n hsn _ hn => ?_⟩
  · rcases (hmem n).mp (List.mem_of_mem_take hn) with h | h
    · exact (hu.mem n h).1
    · have := (hd.mem _ h).1
      rwa [Int.neg_neg] at this
  · by_cases hnl : n ∈ l
    · have hdr := take_drop_mem hnl hn
      rw [← List.take_append_drop c l] at hl
      have h3 : c < l.length := by
        have := List.length_pos_of_mem hdr
        rw [List.length_drop] at this
        omega
      exact ⟨by rw [List.length_take]; omega, fun k hk => (List.pairwise_append.mp hl).2.2 k hk n hdr⟩
    · -- c numbers of the list lie ahead of n
      have gen : ∀ t : List Int, t.Nodup → (∀ x, x ∈ t → x ∈ l) → t.length = c → (∀ x, x ∈ t → place x < place n) → (l.take c).length = c ∧ ∀ m, m ∈ l.take c → place m < place n := by
        intro t nt sub lt hlt
        have h4 := sub_len nt sub
        have h5 : (l.take c).length = c := by rw [List.length_take]; omega
        refine ⟨h5, fun m hm => ?_⟩
        by_cases q : place m < place n
        · exact q
        · exfalso
          have hsub : ∀ x, x ∈ t → x ∈ (l.take c).erase m := fun x hx => by
            have hx1 := hlt x hx
            have hx2 : x ∈ l.take c := by
              by_cases z : x ∈ l.take c
              · exact z
              · have hdr := take_drop_mem (sub x hx) z
                have hl2 := hl
                rw [← List.take_append_drop c l] at hl2
                have := (List.pairwise_append.mp hl2).2.2 m hm x hdr
                omega
            exact (List.mem_erase_of_ne fun e => by subst e; omega).mpr hx2
          have h6 := sub_len nt hsub
          rw [List.length_erase_of_mem hm] at h6
          have := List.length_pos_of_mem hm
          omega
      by_cases h0 : 0 ≤ n
      · have h7 := hu.full n hsn h0 fun z => hnl ((hmem n).mpr (.inl z))
        refine gen up nu (fun x hx => (hmem x).mpr (.inl hx)) h7.1 fun x hx => ?_
        have h8 := (hu.mem x hx).2
        have h9 := h7.2 x hx
        simp only [id] at h8 h9
        unfold place
        split <;> split <;> omega
      · have h7 := hd.full (-n) (by rw [Int.neg_neg]; exact hsn) (by simp only [id]; omega) fun z => hnl ((hmem n).mpr (.inr z))
        refine gen (down.map fun n => -n) nd (fun x hx => ?_) (by rw [List.length_map]; exact h7.1) fun x hx => ?_
        · obtain ⟨z, hz, rfl⟩ := List.mem_map.mp hx
          exact (hmem _).mpr (.inr (by rwa [Int.neg_neg]))
        · obtain ⟨z, hz, rfl⟩ := List.mem_map.mp hx
          have h8 := (hd.mem z hz).2
          have h9 := h7.2 z hz
          simp only [id] at h8 h9
          unfold place
          split <;> split <;> omega
/-! ### first_numbers -/
def rg (a b : Int) : List Int := (List.range (b - a).toNat).map fun i => a + (i : Nat)
theorem mem_rg {a b n : Int} : n ∈ rg a b ↔ a ≤ n ∧ n < b := by
  unfold rg
  rw [List.mem_map]
  constructor
  · rintro ⟨i, hi, rfl⟩
    have := List.mem_range.mp hi
    omega
  · intro h
    exact ⟨(n - a).toNat, List.mem_range.mpr (by omega), by omega⟩
theorem rg_len (a b : Int) : (rg a b).length = (b - a).toNat := by unfold rg; rw [List.length_map, List.length_range]
theorem rg_asc (a b : Int) : (rg a b).Pairwise fun x y => x < y := by
  unfold rg
  refine List.pairwise_map.mpr (List.pairwise_lt_range.imp fun {x y} h => by omega)
def startF (least : Int) (low : Option Int) : Int := match low with
  | none => least
  | some l => if least > l then least else l
def behindF (b : Int) (high : Option Int) : Int := match high with
  | none => b
  | some h => if h + 1 < b then h + 1 else b
theorem later_all {pre rest : List Stc} {s : Stc} (h : Canon (pre ++ s :: rest)) {m n : Int} (hm : hasL pre m = true) (hn : has1 s n = true) : m < n := by
  obtain ⟨t, ht, hm1⟩ := List.any_eq_true.mp hm
  obtain ⟨x, y, e1, e2, q⟩ := (List.pairwise_append.mp h.ap).2.2 t ht s (by simp)
  obtain ⟨t1, t2⟩ := t
  obtain ⟨s1, s2⟩ := s
  cases e1
  cases e2
  cases t1 <;> cases s2 <;> simp [has1] at hm1 hn <;> omega
theorem first_step {pre rest : List Stc} {s : Stc} {least : Int} {c : Nat} {found : List Int} (h : Canon (pre ++ s :: rest)) (hf : Fst (hasL pre) id least c found) :
    Fst (hasL (pre ++ [s])) id least c (found ++ rg (startF least s.1) (behindF (startF least s.1 + c - found.length) s.2)) := by
  have hl := hf.len
  have hnew : ∀ n, n ∈ rg (startF least s.1) (behindF (startF least s.1 + c - found.length) s.2) → has1 s n = true ∧ least ≤ n := fun n hn => by
    rw [mem_rg] at hn
    obtain ⟨s1, s2⟩ := s
    refine ⟨has1_of (fun k hk => ?_) (fun k hk => ?_), ?_⟩
    · dsimp only at hk
      subst hk
      simp only [startF] at hn
      split at hn <;> omega
    · dsimp only at hk
      subst hk
      simp only [behindF] at hn
      split at hn <;> omega
    · cases s1 with
      | none => exact hn.1
      | some l =>
        simp only [startF] at hn
        split at hn <;> omega
  have hfs : ∀ m, m ∈ found → hasL pre m = true := fun m hm => (hf.mem m hm).1
  have hlen : (rg (startF least s.1) (behindF (startF least s.1 + c - found.length) s.2)).length ≤ c - found.length := by
    rw [rg_len]
    have : behindF (startF least s.1 + c - found.length) s.2 ≤ startF least s.1 + c - found.length := by
      unfold behindF
      split
      · omega
      · split <;> omega
    omega
  refine ⟨List.pairwise_append.mpr ⟨hf.asc, rg_asc _ _, fun a ha b hb => later_all h (hfs a ha) (hnew b hb).1⟩, fun n hn => ?_, by rw [List.length_append]; omega, fun n hs hp hn => ?_⟩
  · rcases List.mem_append.mp hn with hn | hn
    · have := hf.mem n hn
      exact ⟨by rw [hasL_append, this.1, Bool.true_or], this.2⟩
    · have := hnew n hn
      exact ⟨by rw [hasL_append, hasL_one, this.1, Bool.or_true], this.2⟩
  · simp only [id] at hp
    rw [List.mem_append, not_or] at hn
    by_cases hpre : hasL pre n = true
    · have h2 := hf.full n hpre hp hn.1
      have h3 : rg (startF least s.1) (behindF (startF least s.1 + c - found.length) s.2) = [] := List.length_eq_zero_iff.mp (by omega)
      rw [h3, List.append_nil]
      exact h2
    · rw [hasL_append, hasL_one] at hs
      have hs1 : has1 s n = true := by
        rcases Bool.or_eq_true_iff.mp hs with q | q
        · exact absurd q hpre
        · exact q
      have hst : startF least s.1 ≤ n := by
        obtain ⟨s1, s2⟩ := s
        cases s1 with
        | none => exact hp
        | some l =>
          have : l ≤ n := by
            cases s2 <;> simp [has1] at hs1 <;> omega
          simp only [startF]
          split <;> omega
      have hbe : behindF (startF least s.1 + c - found.length) s.2 ≤ n := by
        have := hn.2
        rw [mem_rg] at this
        omega
      have hbe2 : behindF (startF least s.1 + c - found.length) s.2 = startF least s.1 + c - found.length := by
        obtain ⟨s1, s2⟩ := s
        cases s2 with
        | none => rfl
        | some k =>
          have : n ≤ k := by
            cases s1 <;> simp [has1] at hs1 <;> omega
          simp only [behindF] at hbe ⊢
          split at hbe
          · omega
          · split <;> omega
      refine ⟨?_, fun m hm => ?_⟩
      · rw [List.length_append, rg_len, hbe2]
        omega
      · simp only [id]
        rcases List.mem_append.mp hm with hm | hm
        · exact later_all h (hfs m hm) hs1
        · rw [mem_rg] at hm
          omega
theorem first_none {least : Int} {c : Nat} : Fst (hasL []) id least c [] := ⟨.nil, fun n hn => by simp at hn, Nat.zero_le _, fun n hs => by rw [hasL_nil] at hs; cases hs⟩
/-! ### the set of the negated numbers -/
def negO : Option Int → Option Int
  | none => none
  | some a => some (-a)
def mir1 (s : Stc) : Stc := (negO s.2, negO s.1)
def mirF (ps : List Stc) : List Stc := ps.reverse.map mir1
theorem has1_mir (s : Stc) (n : Int) : has1 (mir1 s) n = has1 s (-n) := by
  obtain ⟨l, r⟩ := s
  rw [Bool.eq_iff_iff]
  cases l <;> cases r <;> simp [mir1, negO, has1] <;> omega
theorem has_mir (ps : List Stc) (n : Int) : hasL (mirF ps) n = hasL ps (-n) := by
  unfold hasL mirF
  rw [List.any_map, List.any_reverse]
  congr 1
  funext s
  exact has1_mir s n
theorem canon_mir {ps : List Stc} (h : Canon ps) : Canon (mirF ps) := by
  refine ⟨fun s hs => ?_, ?_⟩
  · obtain ⟨t, ht, rfl⟩ := List.mem_map.mp hs
    have := h.ne t (List.mem_reverse.mp ht)
    obtain ⟨l, r⟩ := t
    intro a b e1 e2
    cases l <;> cases r <;> simp [mir1, negO] at e1 e2
    have := this _ _ rfl rfl
    omega
  · refine List.pairwise_map.mpr (List.pairwise_reverse.mpr (h.ap.imp fun {a b} hab => ?_))
    obtain ⟨x, y, e1, e2, q⟩ := hab
    exact ⟨-y, -x, by simp [mir1, negO, e2], by simp [mir1, negO, e1], by omega⟩
theorem mir_len (ps : List Stc) : (mirF ps).length = ps.length := by simp [mirF]
end Spk

set_option linter.all false
namespace Spk
/-! ### how many numbers lie between -/
def lowerF (lo : Int) (l : Option Int) : Int := match l with
  | none => lo
  | some x => if x > lo then x else lo
def upperF (hi : Int) (h : Option Int) : Int := match h with
  | none => hi
  | some x => if x < hi then x else hi
def pos0 (n : Int) : Int := if n > 0 then n else 0
def cnt1 (lo hi : Int) (s : Stc) : Int := pos0 (upperF hi s.2 - lowerF lo s.1 + 1)
def cnt (lo hi : Int) : List Stc → Int
  | [] => 0
  | s :: ps => cnt1 lo hi s + cnt lo hi ps
def one (b : Bool) : Int := if b = true then 1 else 0
theorem cnt1_step {lo hi : Int} {s : Stc} (hs : NE s) (h : lo ≤ hi + 1) : cnt1 lo (hi + 1) s = cnt1 lo hi s + one (has1 s (hi + 1)) := by
  obtain ⟨l, r⟩ := s
  have e : ∀ b : Bool, (b = true → one b = 1) ∧ (b = false → one b = 0) := fun b => by cases b <;> simp [one]
  cases q : has1 (l, r) (hi + 1) with
  | true =>
    rw [(e true).1 rfl]
    cases l with
    | none =>
      cases r with
      | none =>
        simp only [cnt1, lowerF, upperF, pos0]
        repeat' split
        all_goals omega
      | some y =>
        simp [has1] at q
        simp only [cnt1, lowerF, upperF, pos0]
        repeat' split
        all_goals omega
    | some x =>
      cases r with
      | none =>
        simp [has1] at q
        simp only [cnt1, lowerF, upperF, pos0]
        repeat' split
        all_goals omega
      | some y =>
        simp [has1] at q
        simp only [cnt1, lowerF, upperF, pos0]
        repeat' split
        all_goals omega
  | false =>
    rw [(e false).2 rfl]
    cases l with
    | none =>
      cases r with
      | none => simp [has1] at q
      | some y =>
        simp [has1] at q
        simp only [cnt1, lowerF, upperF, pos0]
        repeat' split
        all_goals omega
    | some x =>
      cases r with
      | none =>
        simp [has1] at q
        simp only [cnt1, lowerF, upperF, pos0]
        repeat' split
        all_goals omega
      | some y =>
        have := hs x y rfl rfl
        simp [has1] at q
        simp only [cnt1, lowerF, upperF, pos0]
        repeat' split
        all_goals omega
theorem cnt1_base {lo : Int} {s : Stc} : cnt1 lo (lo - 1) s = 0 := by
  obtain ⟨l, r⟩ := s
  cases l <;> cases r <;> simp only [cnt1, lowerF, upperF, pos0]
  all_goals repeat' split
  all_goals omega
theorem cnt_base {lo : Int} : ∀ ps : List Stc, cnt lo (lo - 1) ps = 0
  | [] => rfl
  | s :: ps => by rw [cnt, cnt1_base, cnt_base ps]; rfl
theorem cnt_step {lo hi : Int} (h : lo ≤ hi + 1) : ∀ {ps : List Stc}, Canon ps → cnt lo (hi + 1) ps = cnt lo hi ps + one (hasL ps (hi + 1))
  | [], _ => rfl
  | s :: ps, hc => by
    rw [cnt, cnt, cnt1_step (hc.ne s (by simp)) h, cnt_step h hc.tail, hasL_cons]
    cases q : has1 s (hi + 1) with
    | false =>
      rw [Bool.false_or, show one false = 0 from rfl]
      omega
    | true =>
      have : hasL ps (hi + 1) = false := by
        rw [Bool.eq_false_iff]
        intro z
        obtain ⟨t, ht, h1⟩ := List.any_eq_true.mp z
        obtain ⟨x, y, e1, e2, q2⟩ := (List.pairwise_cons.mp hc.ap).1 t ht
        simp only [has1, e1, e2, Bool.and_eq_true, decide_eq_true_eq] at h1 q
        omega
      rw [this, Bool.true_or, show one false = 0 from rfl]
      omega
theorem rg_succ (lo : Int) (k : Nat) : rg lo (lo + (k + 1 : Nat)) = rg lo (lo + k) ++ [lo + k] := by
  unfold rg
  rw [show (lo + (k + 1 : Nat) - lo).toNat = k + 1 by omega, show (lo + (k : Nat) - lo).toNat = k by omega, List.range_succ, List.map_append]
  rfl
theorem cnt_filter {ps : List Stc} (hc : Canon ps) (lo : Int) : ∀ k : Nat, cnt lo (lo + k - 1) ps = ((rg lo (lo + k)).filter (hasL ps)).length
  | 0 => by
    rw [show lo + ((0 : Nat) : Int) - 1 = lo - 1 by omega, cnt_base]
    unfold rg
    rw [show (lo + ((0 : Nat) : Int) - lo).toNat = 0 by omega]
    rfl
  | k + 1 => by
    rw [rg_succ, List.filter_append, List.length_append, show lo + ((k + 1 : Nat) : Int) - 1 = (lo + k - 1) + 1 by omega, cnt_step (by omega) hc, cnt_filter hc lo k, show lo + (k : Int) - 1 + 1 = lo + k by omega]
    cases q : hasL ps (lo + k) with
    | true => simp [q, one]
    | false => simp [q, one]
/-- as many as a list without repeats of just these numbers -/
theorem cnt_list {ps : List Stc} (hc : Canon ps) {lo hi : Int} (h : lo ≤ hi + 1) {out : List Int} (hn : out.Nodup) (hm : ∀ n, n ∈ out ↔ hasL ps n = true ∧ lo ≤ n ∧ n ≤ hi) : cnt lo hi ps = out.length := by
  have e := cnt_filter hc lo (hi + 1 - lo).toNat
  rw [show lo + ((hi + 1 - lo).toNat : Int) - 1 = hi by omega, show lo + ((hi + 1 - lo).toNat : Int) = hi + 1 by omega] at e
  rw [e]
  congr 1
  refine same_len ((rg_asc lo (hi + 1)).imp (fun {a b} h e => by omega) |>.sublist List.filter_sublist) hn fun x => ?_
  rw [List.mem_filter, mem_rg, hm]
  constructor
  · rintro ⟨⟨a, b⟩, c⟩
    exact ⟨c, a, by omega⟩
  · rintro ⟨c, a, b⟩
    exact ⟨⟨a, by omega⟩, c⟩
theorem cnt_nonneg : ∀ (lo hi : Int) (ps : List Stc), 0 ≤ cnt lo hi ps
  | _, _, [] => Int.le_refl _
  | lo, hi, s :: ps => by
    have := cnt_nonneg lo hi ps
    have h2 : 0 ≤ cnt1 lo hi s := by
      unfold cnt1 pos0
      split <;> omega
    rw [cnt]
    omega
theorem cnt_append (lo hi : Int) : ∀ (a : List Stc) (s : Stc), cnt lo hi (a ++ [s]) = cnt lo hi a + cnt1 lo hi s
  | [], s => by simp [cnt]
  | t :: a, s => by
    rw [List.cons_append, cnt, cnt, cnt_append lo hi a s]
    omega
/-- the numbers up to the last one of a sample -/
theorem cnt_last {ps : List Stc} (hc : Canon ps) {c : Nat} {out : List Int} {x : Int} (h : Fst (hasL ps) place 0 c (out ++ [x])) {lo hi : Int} (hlh : lo ≤ hi + 1) (hp : ∀ n, place n ≤ place x ↔ lo ≤ n ∧ n ≤ hi) : cnt lo hi ps = ((out ++ [x]).length : Nat) := by
  refine cnt_list hc hlh (nodup_of_lt h.asc) fun n => ?_
  rw [← hp n]
  have ha := List.pairwise_append.mp h.asc
  constructor
  · intro hn
    refine ⟨(h.mem n hn).1, ?_⟩
    rcases List.mem_append.mp hn with q | q
    · have := ha.2.2 n q x (by simp)
      omega
    · rw [List.mem_singleton.mp q]; exact Int.le_refl _
  · rintro ⟨h1, h2⟩
    by_cases q : n ∈ out ++ [x]
    · exact q
    · have := (h.full n h1 (place_nonneg n) q).2 x (by simp)
      omega
end Spk

set_option linter.all false
namespace Spk
/-! ### the numbers between the parts, and ahead of and behind them -/
def gapB (a b : Option Int) : Int → Bool := match a, b with
  | some x, some y => has1 (some (x + 1), some (y - 1))
  | _, _ => fun _ => false
def inG : List Stc → Int → Bool
  | s :: t :: r, n => gapB s.2 t.1 n || inG (t :: r) n
  | _, _ => false
def ahF (ps : List Stc) (n : Int) : Bool := match ps with
  | [] => true
  | s :: _ => match s.1 with
    | none => false
    | some l => has1 (none, some (l - 1)) n
def beF (ps : List Stc) (n : Int) : Bool := match ps.getLast? with
  | none => true
  | some s => match s.2 with
    | none => false
    | some h => has1 (some (h + 1), none) n
theorem inG_snoc : ∀ (a : List Stc) (s t : Stc) (n : Int), inG (a ++ [s] ++ [t]) n = (inG (a ++ [s]) n || gapB s.2 t.1 n)
  | [], s, t, n => by simp [inG]
  | [x], s, t, n => by simp [inG, Bool.or_assoc]
  | x :: y :: a, s, t, n => by
    have ih := inG_snoc (y :: a) s t n
    simp only [List.cons_append] at ih ⊢
    show (gapB x.2 y.1 n || inG (y :: (a ++ [s] ++ [t])) n) = (gapB x.2 y.1 n || inG (y :: (a ++ [s])) n || gapB s.2 t.1 n)
    rw [Bool.or_assoc]
    congr 1
/-- what lies behind the first one's end -/
theorem inG_lt : ∀ {ps : List Stc} {s : Stc} {h n : Int}, Canon (s :: ps) → s.2 = some h → inG (s :: ps) n = true → h < n
  | [], s, h, n, _, _, e => by simp [inG] at e
  | t :: r, s, h, n, hc, hs, e => by
    obtain ⟨x, y, e1, e2, q⟩ := (List.pairwise_cons.mp hc.ap).1 t (by simp)
    rw [hs] at e1
    cases e1
    rw [inG, Bool.or_eq_true] at e
    rcases e with e | e
    · simp only [gapB, hs, e2, has1, Bool.and_eq_true, decide_eq_true_eq] at e
      omega
    · cases r with
      | nil => simp [inG] at e
      | cons u r =>
        obtain ⟨x', y', e1', e2', q'⟩ := (List.pairwise_cons.mp hc.tail.ap).1 u (by simp)
        have := inG_lt hc.tail e1' e
        have := hc.ne t (by simp) y x' e2 e1'
        omega
theorem be_lt {ps : List Stc} {s : Stc} {h n : Int} (hc : Canon (s :: ps)) (hs : s.2 = some h) (e : beF (s :: ps) n = true) : h < n := by
  rcases List.eq_nil_or_concat ps with rfl | ⟨a, t, rfl⟩
  · simp only [beF, List.getLast?_singleton, hs, has1, Bool.and_true, decide_eq_true_eq] at e
    omega
  · rw [List.concat_eq_append] at *
    rw [← List.cons_append, beF, List.getLast?_concat] at e
    dsimp only at e
    obtain ⟨x, y, e1, e2, q⟩ := (List.pairwise_cons.mp hc.ap).1 t (by simp)
    rw [hs] at e1
    cases e1
    cases ht : t.2 with
    | none => rw [ht] at e; cases e
    | some k =>
      rw [ht] at e
      have := hc.ne t (by simp) y k e2 ht
      simp only [has1, Bool.and_true, decide_eq_true_eq] at e
      omega
theorem compl_all : ∀ {ps : List Stc} {s : Stc} (n : Int), Canon (s :: ps) → (!hasL (s :: ps) n) = (ahF (s :: ps) n || beF (s :: ps) n || inG (s :: ps) n)
  | [], s, n, hc => by
    obtain ⟨l, r⟩ := s
    rw [Bool.eq_iff_iff]
    cases l with
    | none =>
      cases r with
      | none => simp [hasL, has1, ahF, beF, inG]
      | some y =>
        simp [hasL, has1, ahF, beF, inG]
        omega
    | some x =>
      cases r with
      | none =>
        simp [hasL, has1, ahF, beF, inG]
        omega
      | some y =>
        have := hc.ne (some x, some y) (by simp) x y rfl rfl
        simp [hasL, has1, ahF, beF, inG]
        omega
  | t :: r, s, n, hc => by
    have ih := compl_all (ps := r) (s := t) n hc.tail
    obtain ⟨x, y, e1, e2, q⟩ := (List.pairwise_cons.mp hc.ap).1 t (by simp)
    have eb : beF (s :: t :: r) n = beF (t :: r) n := by
      unfold beF
      rw [List.getLast?_cons_cons]
    rw [hasL_cons, Bool.not_or, ih, eb]
    have h1 : beF (t :: r) n = true → x < n := fun e => be_lt hc e1 (by rw [eb]; exact e)
    have h2 : inG (t :: r) n = true → x < n := fun e => inG_lt hc e1 (by rw [inG, e, Bool.or_true])
    have ga : gapB s.2 t.1 n = (decide (x < n) && decide (n < y)) := by
      rw [e1, e2]
      simp only [gapB, has1]
      rw [Bool.eq_iff_iff]
      simp
      omega
    have at_ : ahF (t :: r) n = decide (n < y) := by
      simp only [ahF, e2, has1, Bool.true_and]
      rw [Bool.eq_iff_iff]
      simp
      omega
    rw [inG, ga, at_]
    generalize beF (t :: r) n = B at *
    generalize inG (t :: r) n = G at *
    obtain ⟨l, r'⟩ := s
    dsimp only at e1
    subst e1
    cases l with
    | none =>
      simp only [ahF, has1, Bool.true_and, Bool.false_or]
      rw [Bool.eq_iff_iff]
      simp
      constructor
      · rintro ⟨a, b | b⟩
        · rcases b with b | b
          · exact .inr (.inl ⟨a, b⟩)
          · exact .inl b
        · exact .inr (.inr b)
      · rintro (b | ⟨a, b⟩ | b)
        · exact ⟨h1 b, .inl (.inr b)⟩
        · exact ⟨a, .inl (.inl b)⟩
        · exact ⟨h2 b, .inr b⟩
    | some k =>
      have hk := hc.ne (some k, some x) (by simp) k x rfl rfl
      simp only [ahF, has1, Bool.true_and]
      rw [Bool.eq_iff_iff]
      simp
      constructor
      · rintro ⟨a, b⟩
        rcases a with a | a
        · exact .inl (.inl (by omega))
        · rcases b with (b | b) | b
          · exact .inr (.inl ⟨a, b⟩)
          · exact .inl (.inr b)
          · exact .inr (.inr b)
      · rintro ((b | b) | ⟨a, b⟩ | b)
        · exact ⟨.inl (by omega), .inl (.inl (by omega))⟩
        · exact ⟨.inr (h1 b), .inl (.inr b)⟩
        · exact ⟨.inr a, .inl (.inl b)⟩
        · exact ⟨.inr (h2 b), .inr b⟩
end Spk

set_option Elab.async false
set_option linter.all false
set_option maxRecDepth 100000
set_option maxHeartbeats 1000000
namespace Spk
open PySem L2

/-! ## readings by steps: one lemma a construct -/
section
variable {σ : L2.St} {H : Hp} {D : Ends} {ta tb te : TE} {Q : VK} {t u : TS} {tt uu : TT} {v x y : V} {i : Nat} {K : PySem.W.Frag}
theorem i_seq (h : t { D with nx := u D } σ H) : tSeq t u D σ H := h
theorem i_next (h : D.nx σ H) : tNext D σ H := h
theorem i_asg {g : TG} (h : te σ H fun x H1 => g x σ H1 D.nx) : tAsg te g D σ H := h
theorem i_name {P : L2.St → Hp → Prop} (h : P (σ.set i (some v)) H) : gName i v σ H P := h
theorem i_ret (h : te σ H D.rt) : tRet te D σ H := h
theorem i_drop (h : te σ H fun _ H1 => D.nx σ H1) : tDrop te D σ H := h
theorem i_ifS (h : tt σ H fun b H1 => if b = true then t D σ H1 else u D σ H1) : tIfS tt t u D σ H := h
theorem i_if (h : tt σ H fun c H1 => if c = true then ta σ H1 Q else tb σ H1 Q) : tIf tt ta tb σ H Q := h
theorem i_var (h : σ[i]? = some (some v)) (q : Q v H) : tVar i σ H Q := ⟨v, h, q⟩
theorem i_c (q : Q v H) : tC v σ H Q := q
theorem i_op {r : R2} (h : ta σ H fun x H1 => tb σ H1 fun y H2 => r x y H2 Q) : tOp r ta tb σ H Q := h
theorem i_un {r : V → Hp → VK → Prop} (h : ta σ H fun x H1 => r x H1 Q) : tUn r ta σ H Q := h
theorem i_rI0 {g : Int → Int → V} {a b : Int} (q : Q (g a b) H) : rI0 g (.int a) (.int b) H Q := ⟨a, b, rfl, rfl, q⟩
theorem i_rI {C : Int → Int → Prop} {g : Int → Int → V} {a b : Int} (hc : C a b) (q : Q (g a b) H) : rI C g (.int a) (.int b) H Q := ⟨a, b, rfl, rfl, hc, q⟩
theorem i_rU {g : Int → V} {a : Int} (q : Q (g a) H) : rU g (.int a) H Q := ⟨a, rfl, q⟩
theorem i_rEq (hs : scal x y = true) (q : Q (.bl (decide (x = y))) H) : rEq x y H Q := ⟨hs, q⟩
theorem i_rNe (hs : scal x y = true) (q : Q (.bl (!decide (x = y))) H) : rNe x y H Q := ⟨hs, q⟩
theorem i_test {P : Bool → Hp → Prop} (h : ta σ H fun x H' => ∃ k, x = .bl k ∧ P k H') : tTest ta σ H P := h
theorem i_tB {P : Bool → Hp → Prop} (h : ta σ H fun x H' => ∃ k, x = .bl k ∧ P k H') : tB ta σ H P := h
theorem i_and {P : Bool → Hp → Prop} (h : tt σ H fun c H1 => if c = true then uu σ H1 P else P false H1) : tAnd tt uu σ H P := h
theorem i_or {P : Bool → Hp → Prop} (h : tt σ H fun c H1 => if c = true then P true H1 else uu σ H1 P) : tOr tt uu σ H P := h
theorem i_not {P : Bool → Hp → Prop} (h : tt σ H fun c H1 => P (!c) H1) : tNot tt σ H P := h
theorem i_andV (h : ta σ H fun x H1 => ∃ c, x = .bl c ∧ if c = true then tb σ H1 Q else Q (.bl false) H1) : tAndV ta tb σ H Q := h
theorem i_orV (h : ta σ H fun x H1 => ∃ c, x = .bl c ∧ if c = true then Q (.bl true) H1 else tb σ H1 Q) : tOrV ta tb σ H Q := h
theorem i_notV (h : ta σ H fun x H1 => ∃ c, x = .bl c ∧ Q (.bl (!c)) H1) : tNotV ta σ H Q := h
theorem i_nil {P : List V → Hp → Prop} (h : P [] H) : tNil σ H P := h
theorem i_cons {tr : TA} {P : List V → Hp → Prop} (h : ta σ H fun x H1 => tr σ H1 fun xs H2 => P (x :: xs) H2) : tCons ta tr σ H P := h
theorem i_cb {r : List V → Hp → VK → Prop} {ts : TA} (h : ts σ H fun vs H1 => r vs H1 Q) : tCB r ts σ H Q := h
theorem i_call {sp : Sp} {E : XK} {ts : TA} (h : ts σ H fun vs H1 => sp (vs ++ []) H1 Q E) : tCall sp [] E ts σ H Q := h
theorem i_bl {c : Bool} {P : Bool → Prop} (h : P c) : ∃ k, V.bl c = .bl k ∧ P k := ⟨c, rfl, h⟩
/-- a new object: the heap behind it is only known by what stood and what is new -/
theorem i_new {o : HO} (h : ∀ p H1, Same H H1 → H p = none → H1 p = some o → Q (.ref p) H1) : ∀ p, H p = none → Q (.ref p) (upd H p o) := fun p hp =>
  h p _ (fun b u e => by rw [upd_ne (ne_of_none e hp)]; exact e) hp upd_same
theorem i_tup {ts : TA} (h : ts σ H fun xs H1 => xs.length ≤ sizeLine ∧ ∀ p, H1 p = none → Q (.ref p) (upd H1 p (.tup xs))) : tTup ts σ H Q := h
theorem i_lst {ts : TA} (h : ts σ H fun xs H1 => xs.length ≤ sizeLine ∧ ∀ p, H1 p = none → Q (.ref p) (upd H1 p (.lst xs))) : tLst ts σ H Q := h
theorem i_sz {xs : List V} {o : HO} (hn : xs.length ≤ 1000) (h : ∀ p H1, Same H H1 → H p = none → H1 p = some o → Q (.ref p) H1) : xs.length ≤ sizeLine ∧ ∀ p, H p = none → Q (.ref p) (upd H p o) :=
  ⟨Nat.le_trans hn (by decide), i_new h⟩
theorem new_heap {o : HO} {p : Addr} (hp : H p = none) : ∃ H1, upd H p o = H1 ∧ Same H H1 ∧ H1 p = some o := ⟨_, rfl, fun b u e => by rw [upd_ne (ne_of_none e hp)]; exact e, upd_same⟩
theorem size_of {n : Nat} (h : n ≤ 100000) : n ≤ sizeLine := Nat.le_trans h (by decide)
theorem size_lt {n : Nat} (h : n ≤ 100000) : n < sizeLine := Nat.lt_of_le_of_lt h (by decide)
theorem i_ixT {p : Addr} {xs : List V} {a : Int} (h : H p = some (.tup xs)) (hv : atI xs a = some v) (q : Q v H) : rIxT K (.ref p) (.int a) H Q := ⟨p, xs, a, v, rfl, rfl, SqT.of h, hv, q⟩
theorem i_ixL {p : Addr} {xs : List V} {a : Int} (h : H p = some (.lst xs)) (hv : atI xs a = some v) (q : Q v H) : rIxL K (.ref p) (.int a) H Q := ⟨p, xs, a, v, rfl, rfl, SqL.of h, hv, q⟩
/-- a for's body and what follows, from the walk on -/
def forK (g : TG) (tb : TS) (D : Ends) (σ : L2.St) : It → Hp → Prop := fun J H1 => ∃ W : Nat → Nat → L2.St → Hp → Prop, (∃ m, W 0 m σ H1) ∧
  ∀ i m σ H, W i m σ H → (J.stop i H ∧ D.nx σ H) ∨ (J.go i H ∧ ∃ N : L2.St → Hp → Prop, (∀ σ' H', N σ' H' → ∃ m', m' < m ∧ W (i + 1) m' σ' H') ∧
    ∀ x H', J.yld i H x H' → g x σ H' fun σ2 H2 => tb { D with nx := N, ct := N, bk := D.nx } σ2 H2)
theorem i_for {wi : TI} {g : TG} (h : wi σ H (forK g t D σ)) : tFor wi g t D σ H := h
theorem i_iL {R : It → Hp → Prop} (h : te σ H fun x H1 => ∃ a, x = .ref a ∧ (∃ xs, SqL K H1 a xs) ∧ R (Itl K a) H1) : iList K te σ H R := h
theorem i_iT {R : It → Hp → Prop} (h : te σ H fun x H1 => ∃ a, x = .ref a ∧ (∃ xs, SqT K H1 a xs) ∧ R (Itt K a) H1) : iTup K te σ H R := h
theorem i_yes {P : Bool → Hp → Prop} (h : P true H) : tYes σ H P := h
theorem i_gsub {to ti : TE} {ts : TSet} {P : L2.St → Hp → Prop} (h : to σ H fun o H1 => ti σ H1 fun i H2 => ts o i v H2 fun H3 => P σ H3) : gSub to ti ts v σ H P := h
theorem pow_ok {a b : Nat} (ha : a ≤ 1000000) (hb : b ≤ 1000000) : CPow (b : Int) (a : Int) := ⟨by omega, by omega, by omega⟩
theorem cmulL {i j : Int} (h : decide (-(2 ^ 64) < i ∧ i < 2 ^ 64) = true) : CMul i j := .inl (of_decide_eq_true h)
theorem i_setL {p : Addr} {xs : List V} {k : Int} {j : Nat} {P : Hp → Prop} (h : H p = some (.lst xs)) (hj : ixN xs.length k = some j) (q : P (upd H p (.lst (xs.set j v)))) : rSetL (.ref p) (.int k) v H P := ⟨p, xs, k, j, rfl, rfl, h, hj, q⟩
theorem i_rng1 {ts : TA} {R : It → Hp → Prop} (h : ts σ H fun vs H1 => ∃ j : Int, vs = [.int j] ∧ -(2 ^ 62) ≤ j ∧ j < 2 ^ 62 ∧ R (Itr 0 j.toNat) H1) : iRng1 ts σ H R := h
theorem i_cut0 (h : t { D with nx := fun σ' H' => σ' = σ ∧ H' = H } σ H) (k : u D σ H) : C8.tCut t u D σ H := ⟨_, h, fun σ' H' e => by rw [e.1, e.2]; exact k⟩
theorem i_cm {C : Addr} {sp : Sp} {E : XK} {ts : TA} (h : te σ H fun x H1 => x = .ref C ∧ ts σ H1 fun vs H2 => sp (.ref C :: vs) H2 Q E) : ClX.tCMeth C sp E te ts σ H Q := h
theorem i_ckw {r : List V → List V → Hp → VK → Prop} {ts tk : TA} (h : ts σ H fun vs H1 => tk σ H1 fun zs H2 => r vs zs H2 Q) : tCKw r ts tk σ H Q := h
theorem i_bm {T : String} {r : V → List V → Hp → VK → Prop} {ts : TA} (h : te σ H fun x H1 => tyV K T x H1 ∧ ts σ H1 fun xs H2 => r x xs H2 Q) : tBM K T r te ts σ H Q := h
theorem i_bm0 {T : String} {r : V → List V → Hp → VK → Prop} (h : te σ H fun x H1 => tyV K T x H1 ∧ r x [] H1 Q) : tBM0 K T r te σ H Q := h
theorem i_tyL {p : Addr} {xs : List V} {A : Prop} (h : H p = some (.lst xs)) (q : A) : tyV K "list" (.ref p) H ∧ A := ⟨.inl ⟨rfl, _, SqL.of h⟩, q⟩
theorem i_app {p : Addr} {xs : List V} (h : H p = some (.lst xs)) (hz : xs.length ≤ 100000) (q : Q .non (upd H p (.lst (xs ++ [v])))) : rAppend (.ref p) [v] H Q := ⟨p, xs, v, rfl, rfl, h, size_lt hz, q⟩
theorem i_pop {p : Addr} {xs : List V} (h : H p = some (.lst (xs ++ [v]))) (q : Q v (upd H p (.lst xs))) : rPop (.ref p) [] H Q := ⟨p, _, v, rfl, rfl, h, by simp, by rw [List.dropLast_concat]; exact q⟩
theorem i_truL {p : Addr} {xs : List V} {P : Bool → Hp → Prop} (h : H p = some (.lst xs)) (q : P (!xs.isEmpty) H) : ∃ k, TruV K (.ref p) H k ∧ P k H := ⟨_, .inl ⟨xs, SqL.of h, rfl⟩, q⟩
theorem i_gtup {p : Addr} {xs : List V} {n : Nat} {g : TGs} {P : L2.St → Hp → Prop} (h : H p = some (.tup xs)) (hn : xs.length = n) (q : g xs σ H P) : gTup K n g (.ref p) σ H P := ⟨p, xs, rfl, SqT.of h, hn, q⟩
theorem i_gcons {g : TG} {gs : TGs} {vs : List V} {P : L2.St → Hp → Prop} (q : g v σ H fun σ' H' => gs vs σ' H' P) : gCons g gs (v :: vs) σ H P := ⟨v, vs, rfl, q⟩
theorem i_gnil {P : L2.St → Hp → Prop} (q : P σ H) : gNil [] σ H P := ⟨rfl, q⟩
theorem i_par {ts : TA} {a b : Nat} (h : ts σ H fun vs H1 => ∃ v w, vs = [v, w] ∧ D.nx ((σ.set a (some v)).set b (some w)) H1) : tPar a b ts D σ H := h
theorem ite_d {c A B : Prop} [Decidable c] (h1 : c → A) (h2 : ¬ c → B) : if decide c = true then A else B := by
  by_cases h : c
  · rw [decide_eq_true h, if_pos rfl]; exact h1 h
  · rw [decide_eq_false h, if_neg (by decide)]; exact h2 h
theorem ite_nd {c A B : Prop} [Decidable c] (h1 : ¬ c → A) (h2 : c → B) : if (!decide c) = true then A else B := by
  by_cases h : c
  · rw [decide_eq_true h, if_neg (by decide)]; exact h2 h
  · rw [decide_eq_false h, if_pos (by decide)]; exact h1 h
end
theorem sm_up {H H' : Hp} {a : Addr} {o : HO} (s : Same H H') (h : H a = some o) : H' a = some o := s a o h

/-! ## the data: stretches, parts, sets -/
abbrev ov : Option Int → V := fun o => match o with
  | none => .non
  | some i => .int i
def kx (s : Stc) : Int := match s.1 with | none => 0 | some _ => 1
def ky (s : Stc) : Int := match s.1 with | none => 0 | some i => i
def key (s : Stc) : List V := [.int (kx s), .int (ky s)]
def keyD (s : Stc) : PyData := .tuple [.int (kx s), .int (ky s)]
/-- v is a tuple (low, high) -/
def TupS (H : Hp) (v : V) (s : Stc) : Prop := ∃ a, v = .ref a ∧ H a = some (.tup [ov s.1, ov s.2])
/-- the values are stretches, one by one -/
def Tups (H : Hp) : List V → List Stc → Prop := Paired (TupS H)
theorem TupS.up {H H' : Hp} {v : V} {s : Stc} (e : Same H H') (h : TupS H v s) : TupS H' v s := by
  obtain ⟨a, rfl, h⟩ := h
  exact ⟨a, rfl, e _ _ h⟩
theorem Tups.up {H H' : Hp} {vs : List V} {ss : List Stc} (e : Same H H') (h : Tups H vs ss) : Tups H' vs ss := Paired.mapP h fun _ _ z => z.up e

theorem tups_zip {H : Hp} {xs : List V} {ss : List Stc} (h : Tups H xs ss) : ∀ b, b ∈ xs.zip ss → TupS H b.1 b.2 := by
  induction h with
  | nil => intro b hb; simp at hb
  | cons r t ih =>
    intro b hb
    rw [List.zip_cons_cons] at hb
    rcases List.mem_cons.mp hb with rfl | hb
    · exact r
    · exact ih b hb
theorem tups_of {H : Hp} : ∀ {bs : List (V × Stc)}, (∀ b, b ∈ bs → TupS H b.1 b.2) → Tups H (bs.map (·.1)) (bs.map (·.2))
  | [], _ => .nil
  | b :: bs, h => .cons (h b (by simp)) (tups_of fun c hc => h c (by simp [hc]))
theorem kxy_le {a b : Stc} (h : kx a < kx b ∨ (kx a = kx b ∧ ky a ≤ ky b)) : lowLe a.1 b.1 := by
  obtain ⟨l, r⟩ := a
  obtain ⟨l', r'⟩ := b
  cases l <;> cases l' <;> simp_all [kx, ky, lowLe]
/-- what sorted by start_of gives: the same stretches, by their low ends -/
theorem sorted_low {H : Hp} {xs : List V} {ss : List Stc} (h : Tups H xs ss) : ∃ ss', Tups H (byKeys xs (ss.map keyD)) ss' ∧ ss'.Perm ss ∧ ss'.Pairwise fun a b => lowLe a.1 b.1 := by
  have hlen : xs.length = ss.length := Paired.length h
  have e1 : xs.zip (ss.map keyD) = (xs.zip ss).map fun b => (b.1, keyD b.2) := by rw [List.zip_map_right]; rfl
  have hle : PySem.W.dataLe false (fun b : V × Stc => keyD b.2) = fun p q => decide (kx p.2 < kx q.2 ∨ (kx p.2 = kx q.2 ∧ ky p.2 ≤ ky q.2)) := PySem.W.dataLe_ii (fun b : V × Stc => kx b.2) fun b => ky b.2
  have e2 : byKeys xs (ss.map keyD) = ((xs.zip ss).mergeSort (PySem.W.dataLe false fun b : V × Stc => keyD b.2)).map (·.1) := by
    unfold byKeys
    rw [e1, ← List.map_mergeSort (f := fun b : V × Stc => (b.1, keyD b.2)) (r := PySem.W.dataLe false fun b : V × Stc => keyD b.2) (s := PySem.W.dataLe false fun b : V × PyData => b.2) (fun _ _ _ _ => rfl), List.map_map]
    rfl
  rw [e2, hle]
  have pm := List.mergeSort_perm (xs.zip ss) fun p q => decide (kx p.2 < kx q.2 ∨ (kx p.2 = kx q.2 ∧ ky p.2 ≤ ky q.2))
  have pw := List.pairwise_mergeSort (le := fun p q : V × Stc => decide (kx p.2 < kx q.2 ∨ (kx p.2 = kx q.2 ∧ ky p.2 ≤ ky q.2)))
    (fun a b c h1 h2 => by simp only [decide_eq_true_eq] at *; omega) (fun a b => by simp only [Bool.or_eq_true, decide_eq_true_eq]; omega) (xs.zip ss)
  refine ⟨_, tups_of fun b hb => tups_zip h b (pm.mem_iff.mp hb), ?_, ?_⟩
  · have := pm.map (·.2)
    rwa [List.map_snd_zip (by omega)] at this
  · refine List.pairwise_map.mpr (pw.imp fun {a b} hab => kxy_le (by simpa using hab))
theorem keys_alike (ss : List Stc) : PySem.W.AllAlike (ss.map keyD) := PySem.W.AllAlike.of fun _ _ => by simp [keyD, PySem.W.alike, PySem.W.alikeAll]
theorem keys_sort (ss : List Stc) : PySem.W.Sortable (ss.map keyD) := PySem.W.Sortable.tuples fun _ => ⟨_, _, rfl⟩
theorem keys_deep (ss : List Stc) : ∀ d, d ∈ ss.map keyD → d.depth ≤ 100 := fun d hd => by
  obtain ⟨s, _, rfl⟩ := List.mem_map.mp hd
  simp [keyD, PyData.depth, PyData.depthAll]

/-! ## cls(..) of a local name, C.m() without arguments -/
section
open PySem.Spec PyProof.Rows ClX StX
variable {X : Cx} {CX : CXT} {k i : Nat} {f C p g : Addr} {mc : Value} {sp : Sp} {E : XK} {x m : Str} {q pos apos : Pos} {e o : Expr} {es : List Expr} {ta : TE} {t : TA}
def tMakeL (i : Nat) (C : Addr) (sp : Sp) (E : XK) (t : TA) : TE := fun σ H Q => σ[i]? = some (some (.ref C)) ∧ tMakeR C sp E t σ H Q
theorem pe_makeL (M : Mk X.K C f) (F : FnR X.prog X.w X.K X.mg X.base CX k f sp) (hr : Room (k + 1) X.A) (hN : X.N[i]? = some x) (hv : Vis X.env.scope x) (hx : Passes CX X E) (ha : PA X (e :: es) t)
    (hdb : (x == ("__debug__" : Str)) = false := by decide) (hcd : (x == ("__classdict__" : Str)) = false := by decide)
    (he : starEach (e :: es) X.env = (false, eval e X.env) :: starEach es X.env := by rfl) (hpl : (backTo pos (starEach es X.env)).any (·.1) = false := by rfl) : PE X (.Call (.Name x q) (e :: es) [] pos) (tMakeL i C sp E t) := by
  refine ⟨fun pins s σ H Q I h => ?_⟩
  obtain ⟨hs, ht⟩ := h
  have ld := (pe_var (pos := q) hN hv hdb hcd).run pins s σ H (fun v H1 => v = .ref C ∧ H1 = H) I ⟨.ref C, hs, rfl, rfl⟩
  refine wpAny_Call_Name_kw (thn ld fun u s1 ⟨v, H1, I1, r1, q1⟩ => ?_)
  obtain ⟨rfl, rfl⟩ := q1
  cases r1
  refine PySem.W.callWith_K (h₀ := X.base) I.ok.mod.kin M.kp (thn (ha.run pos pins s1 σ _ _ I1 ht) fun us s2 ⟨vs, H2, I2, r, z⟩ => ⟨I2.kIn, ?_⟩) he hpl
  exact run_makeR M F hr hx I2 r z
theorem pe_cmeth0 {pl : Sem Bool} (he : PE X o ta) (r : CRead X.K C mc) (c : CMet X.K C mc m p g) (F : FnR X.prog X.w X.K X.mg X.base CX k g sp) (hr : Room k X.A) (hx : Passes CX X E)
    (ht : eval (.Call (.Attribute o m apos) [] [] pos) X.env = (do
      let ov ← eval o X.env
      standAt apos.atName
      let (f, first) ← holding [ov] (getMethod ov m pl)
      callWith pos f first (backTo pos (starEach [] X.env)) (backToKw pos (keywordEach [] X.env))) := by rfl) : PE X (.Call (.Attribute o m apos) [] [] pos) (tCMeth C sp E ta tNil) := by
  refine ⟨fun pins s σ H Q I h => ?_⟩
  refine PySem.W.methodCall_KW (pl := pl) (thn (he.run pins s σ H _ I h) fun u s1 ⟨x, H1, I1, rx, ex, z⟩ => ?_) ht
  subst ex
  obtain rfl : u = Value.ref C := rx
  refine getmethcm_ok I1 r c fun s2 I2 => ?_
  exact PySem.W.callWith_M0 (first := []) ⟨pin_at I2, I2.kIn⟩ c.fi (run_cm F hr hx I2 .nil z)
end

/-- def f(a, .., *v) by its text -/
theorem _root_.L2.Fun.okStar {P : Program} {w : World} {K : PySem.W.Frag} {mg : Str → Option Value} {base : Heap} {x qual pv : Str} {st : Stmt} {f : Addr} {fd : FuncData} {N ps : List Str} {k : Nat} {sp : Sp} (F : Fun K x qual st f fd) (S : FnScope N (ps ++ [pv]) (defScope st))
    (hb : ∀ (kV doc pm : Value) (an : Option Addr) (cdv ct : Value) (us rest : List Value), us.length = ps.length →
      bindArgs (PySem.W.fnOf x qual (defArgs st) (defBody st) (defScope st) .none kV doc pm an cdv ct) ⟨us ++ rest, []⟩ = (newTuple rest >>= fun t => pure (ps.zip us ++ [(pv, t)])))
    (hbody : ∀ (cdv : Value) (A : Around) (outer : List Env) (s : Shared) (H : Hp) (vs : List V) (Q : VK) (E : XK), Room k (A.deeper (PyProof.Rows.envOfC qual (defScope st) s.heap.objs.size f cdv)) → sp vs H Q E →
      ∃ t, PSs (cxOf CX0 P w K mg base N qual (defScope st) f cdv A outer s H E).nox (defBody st) t ∧ t { nx := fun _ H' => Q .non H', rt := Q } (L2.start N vs) H) :
    FnR P w K mg base CX0 (k + 1) f (fun vs H Q E => ∃ ws rest, vs = ws ++ rest ∧ ws.length = ps.length ∧ rest.length ≤ sizeLine ∧ ∀ p, H p = none → sp (ws ++ [V.ref p]) (upd H p (.tup rest)) Q E) := by
  obtain ⟨oc, od, kV, doc, pm, an, cdv, ct, osl, rfl, lk, hcd⟩ := F.ex
  refine StX.fn_star lk hcd S StX.cxUp_none (hb kV doc pm an cdv ct) fun A outer s H vs Q E hr hsp => ?_
  obtain ⟨t, h, q⟩ := hbody cdv A outer s H vs Q E hr hsp
  exact ⟨t, h.nox, q⟩
end Spk

set_option Elab.async false
set_option linter.all false
set_option maxRecDepth 100000
set_option maxHeartbeats 1000000
namespace Spk
open PySem PySem.Spec PyProof.Rows PySem.W L2
/-! ## not a, a an instance with its own __bool__ -/
section
variable {X : Cx} {n : Nat} {C f : Addr} {sp : Sp} {a : Expr} {ta : TE} {pos : Pos}
def tNotO (C : Addr) (sp : Sp) (ta : TE) : TE := fun σ H Q => ta σ H fun x H1 => rTruO C sp x H1 fun k H2 => Q (.bl (!k)) H2
theorem pe_notO (F : FnR X.prog X.w X.K X.mg X.base CX0 n f sp) (hr : Room n X.A) (hs : findIn X.K (.ref C) "__bool__" = some (some (.ref f))) (hf : isFn X.K (.ref f) = true) (ha : PE X a ta) : PE X (.UnaryOp .Not a pos) (tNotO C sp ta) := by
  refine ⟨fun pins s σ H Q I h => ?_⟩
  refine UnaryOp_ (thn (ha.run pins s σ H _ I h) fun v s1 ⟨x, H1, I1, r1, q1⟩ => ?_)
  exact not_of (thn (truthy_own F (sub0 hr) hs hf I1 r1 q1) fun c s2 ⟨H2, I2, q2⟩ => ⟨.bl (!c), H2, I2, rfl, q2⟩)
end
end Spk

set_option Elab.async false
set_option linter.all false
set_option maxRecDepth 100000
set_option maxHeartbeats 2000000
namespace Spk
open PySem PySem.Spec PyProof.Rows L2
open AutoSeq1 (wpAny_loadPart')

/-! ## for i, x in enumerate(t), t a tuple -/
abbrev itO (l : Addr) : Obj := { cls := .type "tuple_iterator", data := .fields #[.ref l, .int 0 0] }
abbrev enO (k : Addr) : Obj := { cls := .type "enumerate", data := .fields #[.none, .bool false, .ref k, rawInt 0, .none, .none] }
set_option maxHeartbeats 4000000 in
theorem enum_newT (l : Addr) (items : Array Value) (n : Nat) (dd : Option Addr) (sl : Array (Option Value)) : Meets (Builtin.«enumerate.__new__» ⟨[.type "enumerate", .ref l], []⟩) (fun _ R s =>
      s.heap.get? l = some { cls := .type "tuple", dict := dd, data := .seq items n, slots := sl } ∧ R (.ok (.ret (.ref (s.heap.push (itO l)).objs.size))) { s with heap := (s.heap.push (itO l)).push (enO s.heap.objs.size) }) :=
  .of_wp fun prog w A R s h => by
    obtain ⟨hp, g, d, tk, os⟩ := s
    obtain ⟨hl, h⟩ := h
    have hT : hp.IsTuple l items := ⟨_, hl, rfl, n, rfl⟩
    have hsub := sub_enumerate
    wp_walk using wpAny_loadPart' hl
    refine wpAny_stack_any fun st => wpAny_pure ?_
    split
    · rename_i c _ _ _ _ _
      cases (c == Value.type "enumerate") <;> (wp_walk using wpAny_loadPart' hl, wpAny_pyIter_tuple hT; exact ⟨_, rfl, h⟩)
    · (wp_walk using wpAny_loadPart' hl, wpAny_pyIter_tuple hT); exact ⟨_, rfl, h⟩

theorem call_enumT {prog : Program} {w : World} {A : Around} {E : Value → Shared → Prop} {s : Shared} {l : Addr} {items : Array Value} {Q : Value → Shared → Prop} (hL : s.heap.IsTuple l items)
    (h : ∀ h', IsEnum h' (s.heap.objs.size + 1) s.heap.objs.size 0 .none → h'.IsTupleIter s.heap.objs.size l 0 → (∀ b o, s.heap.get? b = some o → h'.get? b = some o) → Q (.ref (s.heap.objs.size + 1)) { s with heap := h' }) :
    wpAny (model prog w) A (call (.type "enumerate") [.ref l]) Q E s := by
  obtain ⟨⟨c, dct, dt, sl⟩, hl, hc, n, hd⟩ := hL
  replace hc : c = .type "tuple" := hc
  replace hd : dt = .seq items n := hd
  subst hc hd
  have hz : (s.heap.push (itO l)).objs.size = s.heap.objs.size + 1 := Heap.size_push ..
  have he : IsEnum ((s.heap.push (itO l)).push (enO s.heap.objs.size)) (s.heap.objs.size + 1) s.heap.objs.size 0 .none := by
    have := Heap.get?_push_size (s.heap.push (itO l)) (o := enO s.heap.objs.size) rfl
    rw [hz] at this
    exact this
  have fin := h _ he ⟨_, Heap.get?_push_of_some _ (Heap.get?_push_size _ rfl), rfl, rfl⟩ fun b o x => Heap.get?_push_of_some _ (Heap.get?_push_of_some _ x)
  refine callType_new PySem.F.called_enumerate (by decide) (PySem.F.typeCall_enumerate_1 _) (PySem.F.newCall_enumerate_1 _) (fun obj => PySem.F.args_object_init_2 obj _) PySem.F.entry_enumerate_new (enum_newT l items n dct sl) ⟨hl, ?_⟩
  show _ ∧ _
  rw [hz]
  exact ⟨⟨_, he, rfl⟩, fin⟩
/-- the tuple at a, each item in a new pair -/
def IteT (K : PySem.W.Frag) (a : Addr) : It where
  go := fun i H => ∃ (xs : List V) (x : V), SqT K H a xs ∧ xs[i]? = some x
  yld := fun i H v H' => ∃ T x, v = .ref T ∧ H T = none ∧ H' = upd H T (.tup [.int (i : Nat), x]) ∧ ∀ xs, SqT K H a xs → xs[i]? = some x
  stop := fun i H => ∃ xs : List V, SqT K H a xs ∧ xs.length = i
theorem turn_enumT {P : Program} {w : World} {K : PySem.W.Frag} {elts : List Expr} {kk : Nat} {tpos : Pos} (a e it : Addr) :
    Turn P w K (.Tuple elts kk tpos) (IteT K a) [e, it] e (fun i h => (∃ old, IsEnum h e it ((i : Nat) : Int) old) ∧ h.IsTupleIter it a i ∧ e ≠ it ∧ a ≠ it ∧ a ≠ e) where
  mem := by simp
  obj := fun i h st b hb => by
    obtain ⟨⟨old, he⟩, ⟨o, ho, hc, hd⟩, _⟩ := st
    rcases List.mem_cons.mp hb with rfl | hb
    · exact ⟨_, he, fun v q => nomatch q⟩
    · rw [List.mem_singleton.mp hb]
      exact ⟨o, ho, fun v q => by rw [hd] at q; cases q⟩
  keep := fun i h h' st k => by
    obtain ⟨⟨old, he⟩, hi, hne⟩ := st
    exact ⟨⟨old, k e (by simp) _ he⟩, hi.at fun o q => k it (by simp) o q, hne⟩
  item := by
    intro X hP hw hK hc i pins s σ H E I hf st hg
    subst hP hw hK
    obtain ⟨⟨old, he⟩, hit, hne, hai, hae⟩ := st
    obtain ⟨xs, x, hq, hx⟩ := hg
    obtain ⟨its, rv, p, hz⟩ := I.tuple hq
    obtain ⟨u, hu, ru⟩ := rv.get hx
    have hel : e < s.heap.objs.size := Heap.lt_size he
    have hil : it < s.heap.objs.size := by
      obtain ⟨_, q, _⟩ := hit
      exact Heap.lt_size q
    have hi : i < its.toArray.size := by
      rw [List.size_toArray]
      exact (List.getElem?_eq_some_iff.mp hu).1
    have D := Draws.tuple (prog := X.prog) (w := X.w) (A := X.A.in1) (I.ok.hd hc) it a hai its.toArray
    refine wpAny_pyNext_enum_itemD D he ⟨hit, p⟩ hi hne (by simp [hne, Ne.symm hae]) fun x' h' tk hx' ho hst hT hsz hk => ?_
    have ex : x' = u := by
      have h1 : its.toArray[i]? = some u := by simpa using hu
      rw [h1] at hx'
      exact (Option.some.inj hx').symm
    subst ex
    refine ⟨_, rfl, wpAny_letOwnedTupleGo_enum (s := { s with heap := h', toks := tk + 1 }) ho fun h'' he' sb => ?_⟩
    have hT2 : h''.get? s.heap.objs.size = some { cls := .type "tuple", data := .seq #[.int i tk, x'] } := (sb.2 _ (Nat.ne_of_gt hel)).trans hT
    have new : ObjOk X.prog X.w (upd H s.heap.objs.size (.tup [.int (i : Nat), x])) h'' s.heap.objs.size (.tup [.int (i : Nat), x]) :=
      ⟨size_of (Nat.le_of_ble_eq_true rfl), [.int i tk, x'], .cons ⟨_, rfl⟩ (.cons ru .nil), ⟨_, hT2, rfl, _, rfl⟩⟩
    have keepB : ∀ b ob, b ∉ [e, it] → s.heap.get? b = some ob → h''.get? b = some ob := fun b ob hb q => by
      simp only [List.mem_cons, List.not_mem_nil, or_false, not_or] at hb
      exact (sb.2 b hb.1).trans (hk b ob hb.1 hb.2 q)
    have I1 := I.turnedNew (t' := tk + 1) (ch := [e, it]) keepB hf (Nat.le_refl _) new
    refine ⟨.ref s.heap.objs.size, _, I1, rfl, ⟨_, x, rfl, I.hok.fresh (Nat.le_refl _), rfl, fun ys hy => by rw [I.tuple_inj hy hq]; exact hx⟩, ⟨⟨x', ?_⟩, hst.1.at fun o q => (sb.2 it (Ne.symm hne)).trans q, hne, hai, hae⟩, fun b hb => ?_⟩
    · rw [show ((i + 1 : Nat) : Int) = (i : Int) + 1 from rfl]
      exact he'
    · have hb' : b < s.heap.objs.size := by
        rcases List.mem_cons.mp hb with rfl | hb
        · exact hel
        · rw [List.mem_singleton.mp hb]; exact hil
      rw [upd_ne (Nat.ne_of_lt hb')]
      exact (hf b hb).1
  done := by
    intro X hP hw hK hc i pins s σ H E I hf st hg
    subst hP hw hK
    obtain ⟨⟨old, he⟩, hit, hne, hai, hae⟩ := st
    obtain ⟨xs, hq, hx⟩ := hg
    obtain ⟨its, rv, p, hz⟩ := I.tuple hq
    obtain ⟨f0, f1, f2, f3, f4, f5⟩ := hf it (by simp)
    have D := Draws.tuple (prog := X.prog) (w := X.w) (A := X.A.in1) (I.ok.hd hc) it a hai its.toArray
    have hsz : its.toArray.size = i := by rw [List.size_toArray, ← rv.length]; exact hx
    refine wpAny_pyNext_enum_endD D he ⟨by rw [hsz]; exact hit, p⟩ fun h' eb => ⟨rfl, ?_⟩
    exact I.turned (t' := s.toks) (fun b o hb q => eb b o hb q) f0 f1 f3 f4 f5
  self := fun A i s Q E st h => by
    obtain ⟨⟨_, he⟩, _⟩ := st
    exact wpAny_pyIter_enum he h

def iEnumT (K : PySem.W.Frag) (ta : TA) : TI := fun σ H R => ta σ H fun vs H1 => ∃ a xs, vs = [.ref a] ∧ SqT K H1 a xs ∧ R (IteT K a) H1
theorem i_iET {K : PySem.W.Frag} {σ : L2.St} {H : Hp} {ts : TA} {R : It → Hp → Prop} (h : ts σ H fun vs H1 => ∃ a xs, vs = [.ref a] ∧ SqT K H1 a xs ∧ R (IteT K a) H1) : iEnumT K ts σ H R := h
theorem pi_enumT {X : Cx} {e : Expr} {ta : TA} {p pos tpos : Pos} {elts : List Expr} {kk : Nat} (hg : Gl X "enumerate") (hm : X.mg "enumerate" = none) (ha : PA X [e] ta) (hs : starEach [e] X.env = [(false, eval e X.env)] := by rfl) :
    PI X (.Tuple elts kk tpos) (.Call (.Name "enumerate" p) [e] [] pos) (iEnumT X.K ta) := by
  refine ⟨fun pins s σ H R I h => ?_⟩
  refine Call_ (ld_blt I hg hm boot_enumerate (callWith_type1 (thn (ha.run pos pins s σ H _ I h) fun us s1 ⟨vs, H1, I1, r1, q1⟩ => ?_) hs rfl))
  obtain ⟨a, xs, ex, hq, q⟩ := q1
  subst ex
  obtain ⟨u, rfl, ru⟩ := r1.one
  cases ru
  obtain ⟨its, rv, p', hz⟩ := I1.tuple hq
  have ha' : a < s1.heap.objs.size := by
    obtain ⟨o, ho, _⟩ := p'
    exact Heap.lt_size ho
  refine call_enumT p' fun h' he hit hk => wpAny_pyIter_enum he ?_
  have I2 : Inv X pins σ H1 { s1 with heap := h' } := I1.kept (t' := s1.toks) hk
  have ne1 : a ≠ s1.heap.objs.size := Nat.ne_of_lt ha'
  have ne2 : a ≠ s1.heap.objs.size + 1 := Nat.ne_of_lt (Nat.lt_succ_of_lt ha')
  refine ⟨s1.heap.objs.size + 1, [s1.heap.objs.size + 1, s1.heap.objs.size], _, _, H1, rfl, I2, turn_enumT a (s1.heap.objs.size + 1) s1.heap.objs.size, ⟨⟨.none, he⟩, hit, Nat.succ_ne_self _, ne1, ne2⟩, fun b hb => ?_, q⟩
  have hle : s1.heap.objs.size ≤ b := by
    rcases List.mem_cons.mp hb with rfl | hb
    · exact Nat.le_succ _
    · rw [List.mem_singleton.mp hb]
      exact Nat.le_refl _
  exact I1.fpOk hle (I1.hok.fresh hle)
theorem for_enumT {K : PySem.W.Frag} {a : Addr} {xs : List V} {g : TG} {tb : TS} {D : Ends} {σ : L2.St} {H : Hp} (Pv : Nat → L2.St → Hp → Prop) (h0 : Pv 0 σ H) (hl : ∀ i σ H, i ≤ xs.length → Pv i σ H → SqT K H a xs)
    (hs : ∀ i x T σ H, xs[i]? = some x → Pv i σ H → H T = none → g (.ref T) σ (upd H T (.tup [.int (i : Nat), x])) fun σ2 H2 => tb { D with nx := Pv (i + 1), ct := Pv (i + 1), bk := D.nx } σ2 H2) (hd : ∀ σ H, Pv xs.length σ H → D.nx σ H) :
    forK g tb D σ (IteT K a) H := by
  refine ⟨fun i m σ H => m = xs.length - i ∧ i ≤ xs.length ∧ Pv i σ H, ⟨_, rfl, Nat.zero_le _, h0⟩, ?_⟩
  rintro i m σ H ⟨rfl, hi, p⟩
  by_cases e : i = xs.length
  · subst e
    exact .inl ⟨⟨xs, hl _ _ _ hi p, rfl⟩, hd _ _ p⟩
  · have hlt : i < xs.length := by omega
    refine .inr ⟨⟨xs, xs[i], hl _ _ _ hi p, List.getElem?_eq_getElem hlt⟩, Pv (i + 1), fun σ' H' p' => ⟨_, ?_, rfl, hlt, p'⟩, ?_⟩
    · omega
    · rintro x H' ⟨T, y, rfl, hT, rfl, hy⟩
      exact hs i y T σ H (hy xs (hl _ _ _ hi p)) p hT
end Spk

set_option Elab.async false
set_option linter.all false
set_option maxRecDepth 100000
set_option maxHeartbeats 1000000
namespace Spk
open PySem L2
/-! ## for i, x in enumerate(list) -/
theorem i_iE {K : PySem.W.Frag} {σ : L2.St} {H : Hp} {ta : TA} {R : It → Hp → Prop} (h : ta σ H fun vs H1 => ∃ a xs, vs = [.ref a] ∧ SqL K H1 a xs ∧ R (Ite K a) H1) : iEnum K ta σ H R := h
theorem for_enumL {K : PySem.W.Frag} {a : Addr} {xs : List V} {g : TG} {tb : TS} {D : Ends} {σ : L2.St} {H : Hp} (Pv : Nat → L2.St → Hp → Prop) (h0 : Pv 0 σ H) (hl : ∀ i σ H, i ≤ xs.length → Pv i σ H → SqL K H a xs)
    (hs : ∀ i x T σ H, xs[i]? = some x → Pv i σ H → H T = none → g (.ref T) σ (upd H T (.tup [.int (i : Nat), x])) fun σ2 H2 => tb { D with nx := Pv (i + 1), ct := Pv (i + 1), bk := D.nx } σ2 H2) (hd : ∀ σ H, Pv xs.length σ H → D.nx σ H) :
    forK g tb D σ (Ite K a) H := by
  refine ⟨fun i m σ H => m = xs.length - i ∧ i ≤ xs.length ∧ Pv i σ H, ⟨_, rfl, Nat.zero_le _, h0⟩, ?_⟩
  rintro i m σ H ⟨rfl, hi, p⟩
  by_cases e : i = xs.length
  · subst e
    exact .inl ⟨⟨xs, hl _ _ _ hi p, Nat.le_refl _⟩, hd _ _ p⟩
  · have hlt : i < xs.length := by omega
    refine .inr ⟨⟨xs, xs[i], hl _ _ _ hi p, List.getElem?_eq_getElem hlt⟩, Pv (i + 1), fun σ' H' p' => ⟨_, ?_, rfl, hlt, p'⟩, ?_⟩
    · omega
    · rintro x H' ⟨T, y, rfl, hT, rfl, hy⟩
      exact hs i y T σ H (hy xs (hl _ _ _ hi p)) p hT
end Spk

set_option Elab.async false
set_option linter.all false
set_option maxRecDepth 100000
set_option maxHeartbeats 1000000
namespace Spk
open PySem PySem.Spec PyProof.Rows PySem.W L2 HT
/-! ## t[::-1] of a tuple -/
section
variable {prog : Program} {w : World} {A : Around} {E : Value → Shared → Prop} {s : Shared}
theorem adjust_rev (n : Nat) : Builtin.Slice.sliceAdjust none none (-1) (n : Int) = ((n : Int) - 1, -1) := by
  unfold Builtin.Slice.sliceAdjust
  have h1 : ((-1 : Int) < 0) := by decide
  simp only [h1, if_true]
theorem places_rev (n : Nat) : Builtin.Slice.slicePlaces ((n : Int) - 1) (-1) (-1) = n := by
  unfold Builtin.Slice.slicePlaces
  have h1 : ¬ ((-1 : Int) > 0) := by decide
  have h2 : (- (-1 : Int)) = 1 := by decide
  simp only [h1, if_false, h2, Int.ediv_one]
  split <;> omega
theorem sliceApplied_rev {sl : Addr} {vl vu vs : Value} {n : Nat} {Q : Int × Int × Nat → Shared → Prop} (hs : s.heap.IsSliceOf sl vl vu vs) (pl : IsPart vl none) (pu : IsPart vu none) (ps : IsPart vs (some (-1)))
    (h : Q ((n : Int) - 1, -1, n) s) : wpAny (model prog w) A (Builtin.Slice.sliceApplied (.ref sl) (pure (n : Int))) Q E s := by
  obtain ⟨os, hos, hcs, hds⟩ := id hs
  unfold Builtin.Slice.sliceApplied Builtin.Slice.sliceFields
  refine wpAny_bind (wpAny_bind (wpAny_field hos hds (x := vl) rfl (wpAny_bind (wpAny_field hos hds (x := vu) rfl (wpAny_bind (wpAny_field hos hds (x := vs) rfl (wpAny_pure ?_)))))))
  refine wpAny_bind (slicePart_ ps ?_)
  show wpAny _ _ (if ((-1 : Int) == 0) = true then _ else _) _ _ s
  rw [if_neg (by decide)]
  refine wpAny_bind (slicePart_ pl (wpAny_bind (slicePart_ pu (wpAny_bind (wpAny_pure ?_)))))
  show wpAny _ _ (match Builtin.Slice.sliceAdjust none none (-1) (n : Int) with | (lo, hi) => pure (lo, (-1 : Int), Builtin.Slice.slicePlaces lo hi (-1))) _ _ s
  rw [adjust_rev n]
  show wpAny _ _ (pure ((n : Int) - 1, (-1 : Int), Builtin.Slice.slicePlaces ((n : Int) - 1) (-1) (-1))) _ _ s
  rw [places_rev]
  exact wpAny_pure h
theorem fm_congr {α β : Type} {f g : α → Option β} : ∀ {l : List α}, (∀ x, x ∈ l → f x = g x) → l.filterMap f = l.filterMap g
  | [], _ => rfl
  | a :: l, h => by
    have h1 := h a (by simp)
    have h2 := fm_congr (f := f) (g := g) (l := l) fun x hx => h x (by simp [hx])
    simp only [List.filterMap_cons, h1, h2]
theorem pick_rev (xs : Array Value) : ((List.range xs.size).filterMap fun (m : Nat) => xs[(((xs.size : Nat) : Int) - 1 + (m : Int) * (-1)).toNat]?).toArray = xs.toList.reverse.toArray := by
  have e : ((List.range xs.size).filterMap fun (m : Nat) => xs[(((xs.size : Nat) : Int) - 1 + (m : Int) * (-1)).toNat]?) = ((List.range xs.size).map fun k => xs.size - 1 - k).filterMap (xs[·]?) := by
    rw [List.filterMap_map]
    refine fm_congr fun m hm => ?_
    have := List.mem_range.mp hm
    have e2 : (((xs.size : Nat) : Int) - 1 + (m : Int) * (-1)).toNat = xs.size - 1 - m := by omega
    rw [e2]
    rfl
  rw [e, krv_range, List.filterMap_reverse, krv_all]
theorem getItem_tuple_rev {t sl : Addr} {items : Array Value} {vl vu vs : Value} {Q : Value → Shared → Prop} (ht : IsTup s.heap t items) (hs : s.heap.IsSliceOf sl vl vu vs) (pl : IsPart vl none) (pu : IsPart vu none) (ps : IsPart vs (some (-1)))
    (h : Q (.ref s.heap.objs.size) { s with heap := s.heap.push { cls := .type "tuple", data := .seq items.toList.reverse.toArray } })
    (hsz : items.size ≤ sizeLine) : wpAny (model prog w) A (getItem (.ref t) (.ref sl)) Q E s := by
  have htake : sizeOk (.seq items.toList.reverse.toArray) := by
    show items.toList.reverse.toArray.size ≤ sizeLine
    rw [List.size_toArray, List.length_reverse, Array.length_toList]
    exact hsz
  obtain ⟨os, hos, hcs, hds⟩ := id hs
  have hTs : s.TypeIs (.ref sl) "slice" := ⟨os, hos, hcs⟩
  unfold getItem
  try with_reducible refine wpAny_holding ?_
  first | refine wpAny_bind (wpAny_pure ?_) | skip
  refine wpAny_bind (wpAny_sequenceKey ht.typeIs (by decide) ?_)
  refine wpAny_bind (wpAny_callSpecial?_slot (name := Str.ofString "__getitem__") ht.typeIs PyProof.Rows.slot_tuple_getitem
    (wpAny_call_entry PyProof.Rows.slot_tuple_getitem ht.typeIs entry_tuple_getitem ?_ (args_tuple_getitem _ _)))
  show wpAny _ _ (Builtin.Tuple.tupleItemsOf (.ref t) >>= _) _ _ s
  refine wpAny_bind (tupleItemsOf_ ht ?_)
  refine wpAny_bind (wpAny_typeOf hTs ?_)
  rw [if_pos (by decide)]
  refine wpAny_bind (sliceApplied_rev hs pl pu ps ?_)
  have hno : ¬ ((((items.size : Nat) : Int) - 1 == 0 && (-1 : Int) == 1 && items.size == items.size) = true) := by
    intro q
    rw [Bool.and_eq_true, Bool.and_eq_true] at q
    exact absurd q.1.2 (by decide)
  show wpAny _ _ (if (((items.size : Nat) : Int) - 1 == 0 && (-1 : Int) == 1 && items.size == items.size) = true then _ else _) _ _ s
  rw [if_neg hno, pick_rev]
  first
    | exact wpAny_bind (m := Builtin.Tuple.tupleExact _) (wpAny_newObj_type (wpAny_pure ⟨_, rfl, wpAny_pure h⟩) htake)
    | exact wpAny_bind (m := Builtin.Tuple.tupleExact _) (wpAny_newObj_type (wpAny_bind (wpAny_pure (wpAny_pure ⟨_, rfl, wpAny_pure h⟩))) htake)
    | exact wpAny_bind (wpAny_bind (m := Builtin.Tuple.tupleExact _) (wpAny_newObj_type (wpAny_pure (wpAny_pure ⟨_, rfl, wpAny_pure h⟩)) htake))
    | exact wpAny_bind (wpAny_bind (m := Builtin.Tuple.tupleExact _) (wpAny_newObj_type (wpAny_pure ⟨_, rfl, wpAny_pure h⟩) htake))
end
section
variable {X : Cx}
def tRevT (K : PySem.W.Frag) (te : TE) : TE := fun σ H Q => te σ H fun x H1 => ∃ a xs, x = .ref a ∧ SqT K H1 a xs ∧ ∀ p, H1 p = none → Q (.ref p) (upd H1 p (.tup xs.reverse))
theorem pe_revT {e : Expr} {te : TE} {k : Nat} {p1 p2 p3 pos : Pos} (he : PE X e te) : PE X (.Subscript e (.Slice none none (some (.UnaryOp .USub (.Constant (.int 1) k p1) p2)) p3) pos) (tRevT X.K te) := by
  refine ⟨fun pins s σ H Q I h => ?_⟩
  refine Subscript_ (thn (he.run pins s σ H _ I h) fun v s1 ⟨x, H1, I1, r1, q1⟩ => ?_)
  obtain ⟨a, xs, ex, hx, q⟩ := q1
  subst ex
  cases r1
  have hst : PO X (some (.UnaryOp .USub (.Constant (.int 1) k p1) p2)) (tPart (tUn (rU fun i => .int (-i)) (tC (.int 1)))) := po_some (pe_un un_neg pe_int)
  refine wpAny_Slice (thn (po_none.run pins s1 σ H1 (fun o H2 => o = none ∧ H2 = H1) I1 ⟨rfl, rfl⟩) fun vl s2 ⟨l, H2, I2, pl, el, e2⟩ => ?_)
  subst el e2
  refine thn (po_none.run pins s2 σ H2 (fun o H3 => o = none ∧ H3 = H2) I2 ⟨rfl, rfl⟩) fun vu s3 ⟨u, H3, I3, pu, eu, e3⟩ => ?_
  subst eu e3
  refine thn (hst.run pins s3 σ H3 (fun o H4 => o = some (-1) ∧ H4 = H3) I3 ⟨1, rfl, -1, rfl, rfl, rfl⟩) fun vs s4 ⟨o, H4, I4, ps, eo, e4⟩ => ?_
  subst eo e4
  have I5 : Inv X pins σ H4 { s4 with heap := s4.heap.push { cls := .type "slice", data := .fields #[vl, vu, vs] } } := I4.kept (t' := s4.toks) fun b ob q => Heap.get?_push_of_some _ q
  obtain ⟨its, r, ht, hz⟩ := I5.tuple hx
  have hlen := r.length
  show wpAny (model X.prog X.w) X.A (subscriptTail e (.Slice none none (some (.UnaryOp .USub (.Constant (.int 1) k p1) p2)) p3) (.ref a) (.ref s4.heap.objs.size)) (EP X pins σ Q) X.xe { s4 with heap := s4.heap.push { cls := .type "slice", data := .fields #[vl, vu, vs] } }
  refine tail_any (ops := [.ref a, .ref s4.heap.objs.size]) ht.typeIs (PyProof.Rows.slot_tuple_getitem.lookup) ?_ (by with_unfolding_all rfl)
  refine getItem_tuple_rev ht (Heap.IsSliceOf.new _ vl vu vs) pl pu ps ?_ (by rw [List.size_toArray]; omega)
  refine ⟨.ref _, _, I5.laid (t' := s4.toks) (o := .tup xs.reverse) (fun b ob q => Heap.get?_push_of_some _ q) (Nat.le_refl _) ?_, rfl, q _ (I5.hok.fresh (Nat.le_refl _))⟩
  exact ⟨by rw [List.length_reverse]; exact hz, _, r.reverse, IsTup.new _ _⟩
end
end Spk

set_option Elab.async false
set_option linter.all false
set_option maxRecDepth 100000
set_option maxHeartbeats 1000000
namespace Spk
open PySem L2
def top (i : Nat) : Stmt := PySem.Challenge.pw_speaklast_k08_sets_told_by_their_parts.main.body.getD i (.Pass ⟨0, 0, 0, 0⟩)
local macro_rules | `(tactic| walk_at "rd") => `(tactic| repeat (first
  | with_reducible refine i_seq ?_ | with_reducible refine i_asg ?_ | with_reducible refine i_ret ?_ | with_reducible refine i_ifS ?_ | with_reducible refine i_if ?_
  | with_reducible refine i_for ?_ | with_reducible refine i_iL ?_ | with_reducible refine i_iT ?_ | with_reducible refine i_ckw ?_ | with_reducible refine i_cm ?_ | with_reducible refine And.intro (rfl : V.ref _ = V.ref _) ?_ | with_reducible refine i_rng1 ?_ | with_reducible refine i_bm ?_ | with_reducible refine i_bm0 ?_
  | with_reducible refine i_drop ?_ | with_reducible refine i_next ?_
  | with_reducible refine i_var rfl ?_ | with_reducible refine i_c ?_ | with_reducible refine i_op ?_ | with_reducible refine i_un ?_ | with_reducible refine i_name ?_
  | with_reducible refine i_rI0 ?_ | with_reducible refine i_rU ?_ | with_reducible refine i_rEq rfl ?_ | with_reducible refine i_rNe rfl ?_
  | with_reducible refine i_test ?_ | with_reducible refine i_tB ?_ | with_reducible refine i_and ?_ | with_reducible refine i_or ?_ | with_reducible refine i_not ?_
  | with_reducible refine i_andV ?_ | with_reducible refine i_orV ?_ | with_reducible refine i_notV ?_
  | with_reducible refine i_cons ?_ | with_reducible refine i_nil ?_ | with_reducible refine i_cb ?_ | with_reducible refine i_call ?_ | with_reducible refine i_bl ?_
  | with_reducible refine i_tup ?_ | with_reducible refine i_lst ?_ | with_reducible refine i_par ?_ | with_reducible refine i_gcons ?_ | with_reducible refine i_gnil ?_
  | with_reducible refine And.intro (rfl : V.non = V.non) ?_ | with_reducible refine i_ixT (by assumption) rfl ?_ | with_reducible refine i_ixL (by assumption) rfl ?_ | with_reducible refine i_gtup (by assumption) rfl ?_
  | with_reducible refine i_gsub ?_
  | with_reducible refine Or.inl (Exists.intro _ (And.intro (rfl : [V.int _] = [V.int _]) ?_)) | with_reducible refine Exists.intro _ (And.intro (rfl : [V.int _] = [V.int _]) ?_)
  | with_reducible refine Or.inr (Exists.intro _ (And.intro (rfl : [V.bl _] = [V.bl _]) ?_))
  | with_reducible refine Exists.intro _ (Exists.intro _ (And.intro (rfl : [V.int _, V.int _] = [V.int _, V.int _]) ?_))
  | with_reducible refine Exists.intro _ (Exists.intro _ (And.intro (rfl : [V.ref _] = [V.ref _]) (And.intro (Or.inl (SqL.of (by assumption))) ?_)))
  | with_reducible refine i_rI (show (0 : Int) < _ by assumption) ?_ | with_reducible refine i_rI (show (0 : Int) < _ by decide) ?_
  | with_reducible refine i_rI (pow_ok (Nat.le_of_ble_eq_true rfl) (Nat.le_of_ble_eq_true rfl)) ?_
  | with_reducible refine i_rI (cmulL rfl) ?_))
/-- the parts of a set stand at t -/
def PartsT (H : Hp) (t : Addr) (ps : List Stc) : Prop := ∃ vs, H t = some (.tup vs) ∧ Tups H vs ps
theorem PartsT.up {H H' : Hp} {t : Addr} {ps : List Stc} (e : Same H H') (h : PartsT H t ps) : PartsT H' t ps := by
  obtain ⟨vs, h, z⟩ := h
  exact ⟨vs, e _ _ h, z.up e⟩
theorem ov_non {o : Option Int} (h : ov o = .non) : o = none := by
  cases o with
  | none => rfl
  | some i => cases h
theorem ov_some {o : Option Int} (h : ¬ ov o = .non) : ∃ i, o = some i := by
  cases o with
  | none => exact absurd rfl h
  | some i => exact ⟨i, rfl⟩

section
variable {P : Program} {w : World} {K : PySem.W.Frag} {mg : Str → Option Value} {base : Heap}
/-! ### start_of, touches, later_end -/
abbrev s_start_of : Stmt := top 2
theorem sc_start_of : FnScope ["stretch", "low"] ["stretch"] (defScope s_start_of) := ⟨rfl, rfl, rfl, by decide +kernel, rfl, by decide +kernel, by decide +kernel⟩
def sp_start_of : Sp := fun vs H Q _ => ∃ (v : V) (s : Stc), vs = [v] ∧ TupS H v s ∧ ∀ p H', Same H H' → H' p = some (.tup (key s)) → Q (.ref p) H'
theorem ok_start_of {f : Addr} {fd : FuncData} (F : Fun K "start_of" "start_of" s_start_of f fd) : FnOk P w K mg base CX0 1 f fd ["stretch"] sp_start_of := by
  refine F.ok sc_start_of (fun vs H Q E h => ?_) (fun cdv A outer s H vs Q E hr h => ?_)
  · obtain ⟨v, s, rfl, _⟩ := h
    rfl
  · obtain ⟨v, ⟨lo, hi⟩, rfl, ⟨a, rfl, ha⟩, q⟩ := h
    refine ⟨_, (pss_cons (ps_set (i := 1) sc_start_of.nd rfl (Or.inl rfl) (pe_ix ix_tup (pv 0) pe_int (fun _ _ => rfl)))
 (pss_one (ps_ret (pe_ifExp (pt_cmpR op_isN (pv 1) pe_non (nomark _)) (pe_tup (pa_cons pe_int (pa_cons pe_int pa_nil))) (pe_tup (pa_cons pe_int (pa_cons (pv 1) pa_nil))))))), ?_⟩
    walk_at "rd"
    refine ite_d (fun h => ?_) (fun h => ?_)
    · walk_at "rd"
      have e := ov_non h
      dsimp only at e
      subst e
      exact i_sz (Nat.le_of_ble_eq_true rfl) fun p H1 s1 _ e => q p H1 s1 e
    · obtain ⟨i, rfl⟩ := ov_some h
      walk_at "rd"
      exact i_sz (Nat.le_of_ble_eq_true rfl) fun p H1 s1 _ e => q p H1 s1 e
abbrev s_touches : Stmt := top 4
theorem sc_touches : FnScope ["part", "low", "high"] ["part", "low"] (defScope s_touches) := ⟨rfl, rfl, rfl, by decide +kernel, rfl, by decide +kernel, by decide +kernel⟩
def sp_touches : Sp := fun vs H Q _ => ∃ (v : V) (s : Stc) (lo : Option Int), vs = [v, ov lo] ∧ TupS H v s ∧ Q (.bl (touchB s.2 lo)) H
theorem ok_touches {f : Addr} {fd : FuncData} (F : Fun K "touches" "touches" s_touches f fd) : FnOk P w K mg base CX0 1 f fd ["part", "low"] sp_touches := by
  refine F.ok sc_touches (fun vs H Q E h => ?_) (fun cdv A outer s H vs Q E hr h => ?_)
  · obtain ⟨v, s, lo, rfl, _⟩ := h
    rfl
  · obtain ⟨v, ⟨lo, hi⟩, l, rfl, ⟨a, rfl, ha⟩, q⟩ := h
    refine ⟨_, (pss_cons (ps_set (i := 2) sc_touches.nd rfl (Or.inl rfl) (pe_ix ix_tup (pv 0) pe_int (fun _ _ => rfl)))
 (pss_one (ps_ret (pe_or (pe_cmpR op_isN (pv 1) pe_non (nomark _)) (pe_or (pe_cmpR op_isN (pv 2) pe_non (nomark _)) (pe_one (pe_cmpR op_le (pv 1) (pe_op op_add (pv 2) pe_int) (nomark _)))))))), ?_⟩
    walk_at "rd"
    refine ite_d (fun h => ?_) (fun h => ?_)
    · have e := ov_non h
      subst e
      exact q
    · obtain ⟨i, rfl⟩ := ov_some h
      walk_at "rd"
      refine ite_d (fun h => ?_) (fun h => ?_)
      · have e := ov_non h
        subst e
        exact q
      · obtain ⟨j, rfl⟩ := ov_some h
        walk_at "rd"
        exact q
abbrev s_later_end : Stmt := top 5
theorem sc_later_end : FnScope ["one", "other"] ["one", "other"] (defScope s_later_end) := ⟨rfl, rfl, rfl, by decide +kernel, rfl, by decide +kernel, by decide +kernel⟩
def sp_later_end : Sp := fun vs H Q _ => ∃ (a b : Option Int), vs = [ov a, ov b] ∧ Q (ov (laterE a b)) H
theorem ok_later_end {f : Addr} {fd : FuncData} (F : Fun K "later_end" "later_end" s_later_end f fd) (z_max : mg "max" = none) : FnOk P w K mg base CX0 1 f fd ["one", "other"] sp_later_end := by
  refine F.ok sc_later_end (fun vs H Q E h => ?_) (fun cdv A outer s H vs Q E hr h => ?_)
  · obtain ⟨a, b, rfl, _⟩ := h
    rfl
  · obtain ⟨a, b, rfl, q⟩ := h
    refine ⟨_, (pss_cons (ps_if (PW.pt (pw_or (pt_cmpR op_isN (pv 0) pe_non (nomark _)) (pw_or1 (pt_cmpR op_isN (pv 1) pe_non (nomark _)))))
 (pss_one (ps_ret pe_non))
 pss_nil)
 (pss_one (ps_ret (pe_callB (call_max2 rfl) (by rfl) z_max (by decide +kernel) (pa_cons (pv 0) (pa_cons (pv 1) pa_nil)))))), ?_⟩
    walk_at "rd"
    refine ite_d (fun h => ?_) (fun h => ?_)
    · have e := ov_non h
      subst e
      refine iteT ?_
      walk_at "rd"
      exact q
    · obtain ⟨i, rfl⟩ := ov_some h
      walk_at "rd"
      refine ite_d (fun h => ?_) (fun h => ?_)
      · have e := ov_non h
        subst e
        walk_at "rd"
        exact q
      · obtain ⟨j, rfl⟩ := ov_some h
        walk_at "rd"
        exact q
/-! ### in_parts -/
theorem tups_get {H : Hp} {vs : List V} {ps : List Stc} (h : Tups H vs ps) {i : Nat} (hi : i < ps.length) : ∃ v, vs[i]? = some v ∧ TupS H v ps[i] := by
  induction h generalizing i with
  | nil => simp at hi
  | cons r t ih =>
    cases i with
    | zero => exact ⟨_, rfl, r⟩
    | succ i => exact ih (by simpa using hi)
theorem tups_len {H : Hp} {vs : List V} {ps : List Stc} (h : Tups H vs ps) : vs.length = ps.length := Paired.length h
structure SInv (t : Addr) (n : Int) (ps : List Stc) (H0 : Hp) (m : Nat) (σ : L2.St) (H : Hp) : Prop where
  ex : ∃ (a b : Nat) (x y z : Option V), m = b - a ∧ a ≤ b ∧ b ≤ ps.length ∧ H = H0 ∧ σ = [some (.ref t), some (.int n), some (.int a), some (.int b), x, y, z] ∧
    (∀ (j : Nat) s, j < a → ps[j]? = some s → has1 s n = false) ∧ (∀ (j : Nat) s, b ≤ j → ps[j]? = some s → has1 s n = false)
abbrev s_in_parts : Stmt := top 7
theorem sc_in_parts : FnScope ["parts", "number", "start", "end", "middle", "low", "high"] ["parts", "number"] (defScope s_in_parts) := ⟨rfl, rfl, rfl, by decide +kernel, rfl, by decide +kernel, by decide +kernel⟩
def sp_in_parts : Sp := fun vs H Q _ => ∃ (t : Addr) (ps : List Stc) (n : Int), vs = [.ref t, .int n] ∧ PartsT H t ps ∧ Canon ps ∧ Q (.bl (hasL ps n)) H
theorem ok_in_parts {f : Addr} {fd : FuncData} (F : Fun K "in_parts" "in_parts" s_in_parts f fd) (z_len : mg "len" = none) : FnOk P w K mg base CX0 1 f fd ["parts", "number"] sp_in_parts := by
  refine F.ok sc_in_parts (fun vs H Q E h => ?_) (fun cdv A outer s H vs Q E hr h => ?_)
  · obtain ⟨t, ps, n, rfl, _⟩ := h
    rfl
  · obtain ⟨t, ps, n, rfl, ⟨vs, ht, tu⟩, hc, q⟩ := h
    refine ⟨_, (pss_cons (ps_set (i := 2) sc_in_parts.nd rfl (Or.inl rfl) pe_int)
 (pss_cons (ps_set (i := 3) sc_in_parts.nd rfl (Or.inl rfl) (pe_callB call_len_seq (by rfl) z_len PySem.boot_len (pa_cons (pv 0) pa_nil)))
 (pss_cons (ps_while PassesOwn.never (pt_cmpR op_lt (pv 2) (pv 3) (nomark _))
 (pss_cons (ps_set (i := 4) sc_in_parts.nd rfl (Or.inl rfl) (pe_op op_fdivW (pe_op op_add (pv 2) (pv 3)) pe_int))
 (pss_cons (ps_asg (pe_ix ix_tup (pv 0) (pv 4) (fun _ _ => rfl)) (pg_tup (by rfl) (pgs_cons (pg_name (i := 5) sc_in_parts.nd rfl (Or.inl rfl)) (pgs_cons (pg_name (i := 6) sc_in_parts.nd rfl (Or.inl rfl)) pgs_nil))))
 (pss_one (ps_if (PW.pt (pw_and (pt_cmpR op_notN (pv 5) pe_non (nomark _)) (pw_and1 (pt_cmpR op_lt (pv 1) (pv 5) (nomark _)))))
 (pss_one (ps_set (i := 3) sc_in_parts.nd rfl (Or.inl rfl) (pv 4)))
 (pss_one (ps_if (PW.pt (pw_and (pt_cmpR op_notN (pv 6) pe_non (nomark _)) (pw_and1 (pt_cmpR op_gt (pv 1) (pv 6) (nomark _)))))
 (pss_one (ps_set (i := 2) sc_in_parts.nd rfl (Or.inl rfl) (pe_op op_add (pv 4) pe_int)))
 (pss_one (ps_ret pe_bl)))))))))
 (pss_one (ps_ret pe_bl))))), ?_⟩
    walk_at "rd"
    refine ⟨t, vs, rfl, .inr (SqT.of ht), ?_⟩
    walk_at "rd"
    have hlen := tups_len tu
    refine ⟨SInv t n ps H, ⟨vs.length, ⟨0, vs.length, none, none, none, rfl, Nat.zero_le _, Nat.le_of_eq hlen, rfl, rfl, fun j s h => absurd h (Nat.not_lt_zero _), fun j s h e => ?_⟩⟩, ?_⟩
    · rw [List.getElem?_eq_none (by omega)] at e
      cases e
    rintro m σ H' ⟨⟨a, b, x, y, z, em, hab, hb, eH, rfl, lo, hi⟩⟩
    subst H'
    walk_at "rd"
    refine ite_d (fun h => ?_) (fun h => ?_)
    · refine ⟨fun σ' H' => ∃ m', m' < m ∧ SInv t n ps H m' σ' H', fun _ _ h => h, ?_⟩
      walk_at "rd"
      refine i_rI (wide_div (b := 2) (by decide) (by decide) (by decide) (by decide)) ?_
      walk_at "rd"
      have e2 : (((a : Int) + (b : Int)) / 2) = (((a + b) / 2 : Nat) : Int) := by omega
      have hm : (a + b) / 2 < ps.length := by omega
      obtain ⟨v, hv, c, rfl, hcc⟩ := tups_get tu hm
      rw [e2]
      refine i_ixT ht (atI_nat hv) ?_
      walk_at "rd"
      generalize hs : ps[(a + b) / 2] = s at hcc
      have hs' : ps[(a + b) / 2]? = some s := by rw [List.getElem?_eq_getElem hm, hs]
      obtain ⟨l, r⟩ := s
      dsimp only at hcc ⊢
      -- the number lies ahead of this part, behind it, or in it
      have goL : ∀ (k : Int) (x y z : Option V), l = some k → n < k → ∃ m', m' < m ∧ SInv t n ps H m' [some (.ref t), some (.int n), some (.int a), some (.int ((a + b) / 2 : Nat)), x, y, z] H := fun k x y z hk hn =>
        ⟨(a + b) / 2 - a, by omega, ⟨a, (a + b) / 2, x, y, z, rfl, by omega, by omega, rfl, rfl, lo, fun j s hj e => search_low hc hs' hk hn hj e⟩⟩
      have goR : ∀ (k : Int) (x y z : Option V), r = some k → k < n → ∃ m', m' < m ∧ SInv t n ps H m' [some (.ref t), some (.int n), some (.int ((a + b) / 2 + 1 : Nat)), some (.int b), x, y, z] H := fun k x y z hk hn =>
        ⟨b - ((a + b) / 2 + 1), by omega, ⟨(a + b) / 2 + 1, b, x, y, z, rfl, by omega, hb, rfl, rfl, fun j s hj e => search_high hc hs' hk hn (by omega) e, hi⟩⟩
      have found : has1 (l, r) n = true → Q (.bl true) H := fun hh => by
        have e : hasL ps n = true := List.any_eq_true.mpr ⟨_, List.mem_of_getElem? hs', hh⟩
        rw [e] at q
        exact q
      have rest : (∀ k, l = some k → k ≤ n) → tIfS
            (tAnd (tTest (tOp (fun x y H Q => y = V.non ∧ Q (V.bl !decide (x = V.non)) H) (tVar 6) (tC V.non)))
              (tTest (tOp (rI0 fun i j => V.bl (decide (j < i))) (tVar 1) (tVar 6))))
            (tAsg (tOp (rI0 fun i j => V.int (i + j)) (tVar 4) (tC (V.int 1))) (gName 2)) (tRet (tC (V.bl true)))
            { nx := fun σ' H' => ∃ m', m' < m ∧ SInv t n ps H m' σ' H', rt := Q, bk := fun σ H => Q (.bl false) H, ct := fun σ' H' => ∃ m', m' < m ∧ SInv t n ps H m' σ' H' }
            [some (.ref t), some (.int n), some (.int a), some (.int b), some (.int ((a + b) / 2 : Nat)), some (ov l), some (ov r)] H := by
        intro hl
        walk_at "rd"
        cases r with
        | none =>
          refine ite_nd (fun h => absurd rfl h) (fun _ => ?_)
          refine iteF ?_
          walk_at "rd"
          exact found (has1_of hl fun k hk => nomatch hk)
        | some k =>
          refine ite_nd (fun _ => ?_) (fun h => nomatch h)
          walk_at "rd"
          refine ite_d (fun h => ?_) (fun h => ?_)
          · walk_at "rd"
            exact goR k _ _ _ rfl h
          · walk_at "rd"
            exact found (has1_of hl fun j hj => by cases hj; omega)
      cases l with
      | none =>
        refine ite_nd (fun h => absurd rfl h) (fun _ => ?_)
        refine iteF ?_
        exact rest (fun k hk => nomatch hk)
      | some k =>
        refine ite_nd (fun _ => ?_) (fun h => nomatch h)
        walk_at "rd"
        refine ite_d (fun h => ?_) (fun h => ?_)
        · walk_at "rd"
          exact goL k _ _ _ rfl h
        · exact rest (fun j hj => by cases hj; omega)
    · walk_at "rd"
      have e : hasL ps n = false := by
        unfold hasL
        rw [List.any_eq_false]
        intro s hs
        obtain ⟨j, hj⟩ := List.mem_iff_getElem?.mp hs
        rcases Nat.lt_or_ge j a with q1 | q1
        · rw [lo j s q1 hj]; simp
        · rw [hi j s (by omega) hj]; simp
      rw [e] at q
      exact q

/-! ### joined -/
theorem dp_key {H : Hp} {p : Addr} {s : Stc} (h : H p = some (.tup (key s))) : Dp K H (.ref p) (keyD s) := .tup (SqT.of h) (.cons (.int _) (.cons (.int _) .nil))
abbrev s_joined : Stmt := top 3
theorem sc_joined : FnScope ["stretches", "parts", "low", "high", "first", "last"] ["stretches"] (defScope s_joined) := ⟨rfl, rfl, rfl, by decide +kernel, rfl, by decide +kernel, by decide +kernel⟩
def sp_joined (K : PySem.W.Frag) : Sp := fun vs H Q _ => ∃ (l : Addr) (xs : List V) (ss : List Stc), vs = [.ref l] ∧ (SqL K H l xs ∨ SqT K H l xs) ∧ Tups H xs ss ∧ ss.length ≤ 1000 ∧ (∀ s, s ∈ ss → NE s) ∧
  ∀ p H' ps, Same H H' → PartsT H' p ps → Canon ps → (∀ n, hasL ps n = hasL ss n) → ps.length ≤ ss.length → Q (.ref p) H'
/-- what holds between two turns: the list at d holds the joined stretches so far -/
structure JInv (H0 : Hp) (a p d : Addr) (L : List V) (ss : List Stc) (i : Nat) (σ : L2.St) (H : Hp) : Prop where
  ex : ∃ (acc : List Stc) (vs : List V) (x y z w : Option V), σ = [some (.ref a), some (.ref d), x, y, z, w] ∧ Same H0 H ∧ H p = some (.lst L) ∧ H d = some (.lst vs) ∧ Tups H vs acc ∧ Joins acc (ss.take i) (ss.drop i) ∧ acc.length ≤ i
theorem joinF_len (acc : List Stc) (s : Stc) : (joinF acc s).length ≤ acc.length + 1 := by
  unfold joinF
  cases h : acc.getLast? with
  | none => simp
  | some p =>
    dsimp only
    split
    · simp
    · simp
theorem Same.mut {H0 H : Hp} {d : Addr} {o : HO} (e : Same H0 H) (h : H0 d = none) : Same H0 (upd H d o) := fun b u hb => by
  rw [upd_ne (ne_of_none hb h)]
  exact e b u hb
/-- tuples stay where a list is changed -/
theorem Tups.mut {H : Hp} {d : Addr} {ys zs : List V} {vs : List V} {ss : List Stc} (h : Tups H vs ss) (hd : H d = some (.lst ys)) : Tups (upd H d (.lst zs)) vs ss :=
  Paired.mapP h fun v s ⟨a, e, ha⟩ => ⟨a, e, by rw [upd_ne (ne_of ha hd (by intro z; cases z))]; exact ha⟩
theorem tups_snoc {H : Hp} {vs : List V} {ss : List Stc} {v : V} {s : Stc} (h : Tups H vs ss) (hv : TupS H v s) : Tups H (vs ++ [v]) (ss ++ [s]) := by
  induction h with
  | nil => exact .cons hv .nil
  | cons r t ih => exact .cons r ih
theorem tups_concat {H : Hp} {s : Stc} : ∀ {ss : List Stc} {vs : List V}, Tups H vs (ss ++ [s]) → ∃ vs' v, vs = vs' ++ [v] ∧ Tups H vs' ss ∧ TupS H v s
  | [], _, .cons r .nil => ⟨[], _, rfl, .nil, r⟩
  | a :: ss, _, .cons r t => by
    obtain ⟨vs', v, e, t', hv⟩ := tups_concat (ss := ss) t
    subst e
    exact ⟨_ :: vs', v, rfl, .cons r t', hv⟩
theorem ok_joined {f fS fT fE : Addr} {fd fdS fdT fdE : FuncData} (F : Fun K "joined" "joined" s_joined f fd) (FS : Fun K "start_of" "start_of" s_start_of fS fdS) (B_start_of : Binds K fdS ["stretch"] []) (g_start_of : mg "start_of" = some (.ref fS))
    (F_touches : Fun K "touches" "touches" s_touches fT fdT) (B_touches : Binds K fdT ["part", "low"] []) (g_touches : mg "touches" = some (.ref fT))
    (F_later_end : Fun K "later_end" "later_end" s_later_end fE fdE) (B_later_end : Binds K fdE ["one", "other"] []) (g_later_end : mg "later_end" = some (.ref fE))
    (z_max : mg "max" = none) (z_sorted : mg "sorted" = none) (z_tuple : mg "tuple" = none) : FnOk P w K mg base CX0 4 f fd ["stretches"] (sp_joined K) := by
  have GS : FnOk P w K mg base CX0 1 fS fdS ["stretch"] sp_start_of := ok_start_of FS
  have RS := FnOk.raw GS B_start_of .nil
  have G_touches : FnOk P w K mg base CX0 1 fT fdT ["part", "low"] sp_touches := ok_touches F_touches
  have G_later_end : FnOk P w K mg base CX0 1 fE fdE ["one", "other"] sp_later_end := ok_later_end F_later_end z_max
  refine F.ok sc_joined (fun vs H Q E h => ?_) (fun cdv A outer s H vs Q E hr h => ?_)
  · obtain ⟨l, xs, ss, rfl, _⟩ := h
    rfl
  · obtain ⟨l, xs, ss, rfl, hl, tu, hz, hne, q⟩ := h
    refine ⟨_, (pss_cons (ps_set (i := 1) sc_joined.nd rfl (Or.inl rfl) (pe_lst pa_nil))
 (pss_cons (ps_for PassesOwn.never rfl (pi_list (pe_callBK (cr_sortKey RS (hr.mono (by decide))) (by rfl) z_sorted (by decide +kernel) (pa_cons (pv 0) pa_nil) (pk_cons (pe_glob rfl g_start_of (relR _)) pk_nil))) (pg_tup (by rfl) (pgs_cons (pg_name (i := 2) sc_joined.nd rfl (Or.inl rfl)) (pgs_cons (pg_name (i := 3) sc_joined.nd rfl (Or.inl rfl)) pgs_nil)))
 (pss_one (ps_if (PW.pt (pw_and (pt_truth (pv 1) (by intro _; rfl)) (pw_and1 (pt_val (pe_call G_touches (hr.mono (by decide)) rfl g_touches F_touches.kp B_touches .nil pass0 (pa_cons (pe_ix ix_list (pv 1) (pe_un un_neg pe_int) (fun _ _ => rfl)) (pa_cons (pv 2) pa_nil)))))))
 (pss_cons (ps_asg (pe_bm0 PySem.F.plainAttrs_list PySem.F.slot_list_pop PySem.F.type_list_pop mt_pop (pv 1)) (pg_tup (by rfl) (pgs_cons (pg_name (i := 4) sc_joined.nd rfl (Or.inl rfl)) (pgs_cons (pg_name (i := 5) sc_joined.nd rfl (Or.inl rfl)) pgs_nil))))
 (pss_one (ps_expr (pe_bm PySem.F.plainAttrs_list PySem.F.slot_list_append PySem.F.type_list_append mt_append (pv 1) (pa_cons (pe_tup (pa_cons (pv 4) (pa_cons (pe_call G_later_end (hr.mono (by decide)) rfl g_later_end F_later_end.kp B_later_end .nil pass0 (pa_cons (pv 5) (pa_cons (pv 3) pa_nil))) pa_nil))) pa_nil)))))
 (pss_one (ps_expr (pe_bm PySem.F.plainAttrs_list PySem.F.slot_list_append PySem.F.type_list_append mt_append (pv 1) (pa_cons (pe_tup (pa_cons (pv 2) (pa_cons (pv 3) pa_nil))) pa_nil)))))))
 (pss_one (ps_ret (pe_callTy call_tuple_of (by rfl) z_tuple (by decide +kernel) (pa_cons (pv 1) pa_nil)))))), ?_⟩
    walk_at "rd"
    refine ⟨Nat.zero_le _, fun d hd0 => ?_⟩
    obtain ⟨H1, e1, s1, hd⟩ := new_heap (o := .lst []) hd0
    rw [e1]
    walk_at "rd"
    have hl1 : SqL K H1 l xs ∨ SqT K H1 l xs := hl.elim (fun z => .inl (SqL.ext z s1)) fun z => .inr (SqT.ext z s1)
    have tu1 := tu.up s1
    have hlen := tups_len tu
    refine ⟨l, xs, ss.map keyD, rfl, rfl, hl1, by rw [List.length_map]; exact hlen.symm, keys_alike ss, keys_sort ss, keys_deep ss, fun i x d hx hk H' sm => ?_, fun H2 p sm hp => ?_⟩
    · have hi : i < ss.length := by
        have := (List.getElem?_eq_some_iff.mp hk).1
        simpa using this
      obtain ⟨v, hv, ts⟩ := tups_get tu1 hi
      rw [hx] at hv
      cases hv
      have hd : d = keyD ss[i] := by
        rw [List.getElem?_map, List.getElem?_eq_getElem hi] at hk
        exact (Option.some.inj hk).symm
      subst hd
      exact ⟨x, ss[i], rfl, ts.up sm, fun p H'' s2 e => ⟨s2, dp_key e⟩⟩
    obtain ⟨ss', tu', pm, pw⟩ := sorted_low tu
    obtain ⟨H3, e3, s3, hp3⟩ := new_heap (o := .lst (byKeys xs (ss.map keyD))) hp
    rw [e3]
    have s13 : Same H1 H3 := fun b o z => s3 _ _ (sm _ _ z)
    have s03 : Same H H3 := fun b o z => s13 _ _ (s1 _ _ z)
    have hdp : d ≠ p := ne_of_none (sm _ _ hd) hp
    have hl3 := tups_len tu'
    have hle : ss'.length = ss.length := pm.length_eq
    have hne' : ∀ s, s ∈ ss' → NE s := fun s hs => hne s (pm.mem_iff.mp hs)
    generalize hL : byKeys xs (ss.map keyD) = L at *
    refine ⟨p, rfl, ⟨_, SqL.of hp3⟩, for_list (K := K) (a := p) (xs := L) (JInv H l p d L ss') ⟨[], [], none, none, none, none, rfl, s03, hp3, s13 _ _ hd, .nil, ⟨⟨fun s hs => (by simp at hs), .nil⟩, fun n => rfl, fun a ha => (by simp at ha)⟩, Nat.le_refl _⟩ ?_ ?_ ?_⟩
    · rintro i σ H' _ ⟨acc, vs, x, y, z, w, _, _, hp4, _⟩
      exact SqL.of hp4
    · rintro i x σ H' hx ⟨acc, vs, x1, y1, z1, w1, rfl, sm4, hp4, hd4, ta, jn, hai⟩
      have hi : i < ss'.length := by
        have := (List.getElem?_eq_some_iff.mp hx).1
        omega
      obtain ⟨v, hv, c, rfl, hc⟩ := tups_get tu' hi
      rw [hx] at hv
      cases hv
      have hc4 := sm4 _ _ hc
      have jn' : Joins (joinF acc ss'[i]) (ss'.take (i + 1)) (ss'.drop (i + 1)) := by
        rw [List.drop_eq_getElem_cons hi] at jn
        rw [List.take_succ_eq_append_getElem hi]
        refine joins_step jn (hne' _ (List.getElem_mem hi)) ?_
        rw [← List.drop_eq_getElem_cons hi]
        exact pw.drop
      have hjl := joinF_len acc ss'[i]
      generalize hs : ss'[i] = s at *
      obtain ⟨lo, hi'⟩ := s
      dsimp only at hc4
      -- what the turn leaves
      have fin : ∀ (vs' : List V) (H5 : Hp) (x y z w : Option V), Same H H5 → H5 p = some (.lst L) → H5 d = some (.lst vs') → Tups H5 vs' (joinF acc (lo, hi')) → JInv H l p d L ss' (i + 1) [some (.ref l), some (.ref d), x, y, z, w] H5 :=
        fun vs' H5 x y z w a1 a2 a3 a4 => ⟨_, vs', x, y, z, w, rfl, a1, a2, a3, a4, jn', by omega⟩
      have hva := tups_len ta
      -- the appending of a tuple
      have app : ∀ (ws : List V) (ac : List Stc) (u v : Option Int) (H5 : Hp), Same H H5 → H5 p = some (.lst L) → H5 d = some (.lst ws) → Tups H5 ws ac → ac ++ [(u, v)] = joinF acc (lo, hi') → ∀ q, H5 q = none →
          ∀ R : VK, (∀ H6, (∀ x y z w, JInv H l p d L ss' (i + 1) [some (.ref l), some (.ref d), x, y, z, w] H6) → R .non H6) → rAppend (.ref d) [.ref q] (upd H5 q (.tup [ov u, ov v])) R := by
        intro ws ac u v H5 a1 a2 a3 a4 e q hq R hR
        obtain ⟨H6, e6, s6, hq6⟩ := new_heap (o := .tup [ov u, ov v]) hq
        rw [e6]
        have hw : ws.length ≤ 100000 := by
          have h1 := tups_len a4
          have h2 := congrArg List.length e
          simp only [List.length_append, List.length_singleton] at h2
          omega
        refine i_app (s6 _ _ a3) hw (hR _ fun x y z w => fin (ws ++ [.ref q]) _ x y z w ?_ ?_ upd_same ?_)
        · exact Same.mut (fun b o z => s6 _ _ (a1 _ _ z)) hd0
        · rw [upd_ne hdp.symm]
          exact s6 _ _ a2
        · rw [← e]
          exact Tups.mut (tups_snoc (a4.up s6) ⟨q, rfl, hq6⟩) (s6 _ _ a3)
      walk_at "rd"
      refine ⟨!vs.isEmpty, .inl ⟨vs, SqL.of hd4, rfl⟩, ?_⟩
      rcases List.eq_nil_or_concat acc with rfl | ⟨ac, p', rfl⟩
      · have ev : vs = [] := List.length_eq_zero_iff.mp (by simpa using hva)
        subst ev
        refine iteF (iteF ?_)
        walk_at "rd"
        refine i_tyL hd4 ?_
        walk_at "rd"
        refine ⟨size_of (Nat.le_of_ble_eq_true rfl), fun q hq => ?_⟩
        walk_at "rd"
        refine app [] [] lo hi' H' sm4 hp4 hd4 ta rfl q hq _ ?_
        exact fun H6 h => h _ _ _ _
      · simp only [List.concat_eq_append] at *
        obtain ⟨vs', v, rfl, ta', tp⟩ := tups_concat ta
        have hne : (!(vs' ++ [v]).isEmpty) = true := by simp
        rw [hne]
        refine iteT ?_
        walk_at "rd"
        refine i_ixL hd4 (atI_last _ _) ?_
        walk_at "rd"
        refine ⟨v, p', lo, rfl, tp, ?_⟩
        walk_at "rd"
        have ejn : joinF (ac ++ [p']) (lo, hi') = if touchB p'.2 lo = true then ac ++ [(p'.1, laterE p'.2 hi')] else ac ++ [p'] ++ [(lo, hi')] := by
          unfold joinF
          rw [List.getLast?_concat]
          simp only [List.dropLast_concat]
        by_cases ht : touchB p'.2 lo = true
        · rw [ht]
          refine iteT ?_
          rw [if_pos ht] at ejn
          walk_at "rd"
          refine i_tyL hd4 (i_pop hd4 ?_)
          obtain ⟨c', rfl, hc'⟩ := tp
          have hcd : c' ≠ d := ne_of hc' hd4 (by intro z; cases z)
          have hc5 : upd H' d (.lst vs') c' = some (.tup [ov p'.1, ov p'.2]) := by rw [upd_ne hcd]; exact hc'
          walk_at "rd"
          refine i_tyL upd_same ?_
          walk_at "rd"
          refine ⟨p'.2, hi', rfl, ?_⟩
          walk_at "rd"
          refine ⟨size_of (Nat.le_of_ble_eq_true rfl), fun q hq => ?_⟩
          walk_at "rd"
          refine app vs' ac p'.1 (laterE p'.2 hi') _ (Same.mut sm4 hd0) (by rw [upd_ne hdp.symm]; exact hp4) upd_same (ta'.mut hd4) ejn.symm q hq _ ?_
          exact fun H6 h => h _ _ _ _
        · have ht' : touchB p'.2 lo = false := by simpa using ht
          rw [ht']
          refine iteF ?_
          rw [if_neg ht] at ejn
          walk_at "rd"
          refine i_tyL hd4 ?_
          walk_at "rd"
          refine ⟨size_of (Nat.le_of_ble_eq_true rfl), fun q hq => ?_⟩
          walk_at "rd"
          refine app _ _ lo hi' H' sm4 hp4 hd4 ta ejn.symm q hq _ ?_
          exact fun H6 h => h _ _ _ _
    · rintro σ H' ⟨acc, vs, x1, y1, z1, w1, rfl, sm4, hp4, hd4, ta, jn, hai⟩
      walk_at "rd"
      rw [hl3, List.take_length, List.drop_length] at jn
      refine ⟨d, vs, rfl, .inl ⟨SqL.of hd4, fun p6 hp6 => ?_⟩⟩
      obtain ⟨H6, e6, s6, h6⟩ := new_heap (o := .tup vs) hp6
      rw [e6]
      refine q p6 H6 acc (fun b o z => s6 _ _ (sm4 _ _ z)) ⟨vs, h6, ta.up s6⟩ jn.canon (fun n => ?_) (by omega)
      rw [jn.has n]
      exact Bool.eq_iff_iff.mpr (by simp only [hasL, List.any_eq_true]; exact ⟨fun ⟨s, hs, e⟩ => ⟨s, pm.mem_iff.mp hs, e⟩, fun ⟨s, hs, e⟩ => ⟨s, pm.mem_iff.mpr hs, e⟩⟩)
end
end Spk

set_option Elab.async false
set_option linter.all false
set_option maxRecDepth 100000
set_option maxHeartbeats 1000000
namespace Spk
open PySem L2
local macro_rules | `(tactic| walk_at "rd") => `(tactic| repeat (first
  | with_reducible refine i_seq ?_ | with_reducible refine i_asg ?_ | with_reducible refine i_ret ?_ | with_reducible refine i_ifS ?_ | with_reducible refine i_if ?_
  | with_reducible refine i_for ?_ | with_reducible refine i_iL ?_ | with_reducible refine i_iT ?_ | with_reducible refine i_ckw ?_ | with_reducible refine i_cm ?_ | with_reducible refine And.intro (rfl : V.ref _ = V.ref _) ?_ | with_reducible refine i_rng1 ?_ | with_reducible refine i_bm ?_ | with_reducible refine i_bm0 ?_
  | with_reducible refine i_drop ?_ | with_reducible refine i_next ?_
  | with_reducible refine i_var rfl ?_ | with_reducible refine i_c ?_ | with_reducible refine i_op ?_ | with_reducible refine i_un ?_ | with_reducible refine i_name ?_
  | with_reducible refine i_rI0 ?_ | with_reducible refine i_rU ?_ | with_reducible refine i_rEq rfl ?_ | with_reducible refine i_rNe rfl ?_
  | with_reducible refine i_test ?_ | with_reducible refine i_tB ?_ | with_reducible refine i_and ?_ | with_reducible refine i_or ?_ | with_reducible refine i_not ?_
  | with_reducible refine i_andV ?_ | with_reducible refine i_orV ?_ | with_reducible refine i_notV ?_
  | with_reducible refine i_cons ?_ | with_reducible refine i_nil ?_ | with_reducible refine i_cb ?_ | with_reducible refine i_call ?_ | with_reducible refine i_bl ?_
  | with_reducible refine i_tup ?_ | with_reducible refine i_lst ?_ | with_reducible refine i_par ?_ | with_reducible refine i_gcons ?_ | with_reducible refine i_gnil ?_
  | with_reducible refine And.intro (rfl : V.non = V.non) ?_ | with_reducible refine i_ixT (by assumption) rfl ?_ | with_reducible refine i_ixL (by assumption) rfl ?_ | with_reducible refine i_gtup (by assumption) rfl ?_
  | with_reducible refine i_gsub ?_
  | with_reducible refine Or.inl (Exists.intro _ (And.intro (rfl : [V.int _] = [V.int _]) ?_)) | with_reducible refine Exists.intro _ (And.intro (rfl : [V.int _] = [V.int _]) ?_)
  | with_reducible refine Or.inr (Exists.intro _ (And.intro (rfl : [V.bl _] = [V.bl _]) ?_))
  | with_reducible refine Exists.intro _ (Exists.intro _ (And.intro (rfl : [V.int _, V.int _] = [V.int _, V.int _]) ?_))
  | with_reducible refine Exists.intro _ (Exists.intro _ (And.intro (rfl : [V.ref _] = [V.ref _]) (And.intro (Or.inl (SqL.of (by assumption))) ?_)))
  | with_reducible refine i_rI (show (0 : Int) < _ by assumption) ?_ | with_reducible refine i_rI (show (0 : Int) < _ by decide) ?_
  | with_reducible refine i_rI (pow_ok (Nat.le_of_ble_eq_true rfl) (Nat.le_of_ble_eq_true rfl)) ?_
  | with_reducible refine i_rI (cmulL rfl) ?_))
/-! ### the class Ranges -/
def Rng (C : Addr) (H : Hp) (r : Addr) (ps : List Stc) : Prop := ∃ dx t, H r = some (.ins C dx [("parts", .ref t)]) ∧ PartsT H t ps ∧ Canon ps
theorem Rng.up {C : Addr} {H H' : Hp} {r : Addr} {ps : List Stc} (e : Same H H') (h : Rng C H r ps) : Rng C H' r ps := by
  obtain ⟨dx, t, a, b, c⟩ := h
  exact ⟨dx, t, e _ _ a, b.up e, c⟩
theorem Rng.canon {C : Addr} {H : Hp} {r : Addr} {ps : List Stc} (h : Rng C H r ps) : Canon ps := let ⟨_, _, _, _, c⟩ := h; c
/-- parts as data -/
def oD : Option Int → PyData
  | none => .none
  | some i => .int i
def stD (s : Stc) : PyData := .tuple [oD s.1, oD s.2]
def psD (ps : List Stc) : PyData := .tuple (ps.map stD)
theorem dp_ov {K : PySem.W.Frag} {H : Hp} (o : Option Int) : Dp K H (ov o) (oD o) := by
  cases o with
  | none => exact .non
  | some i => exact .int i
theorem dps_tups {K : PySem.W.Frag} {H : Hp} {vs : List V} {ps : List Stc} (h : Tups H vs ps) : DpAll K H vs (ps.map stD) := by
  induction h with
  | nil => exact .nil
  | cons r t ih =>
    obtain ⟨a, rfl, ha⟩ := r
    exact .cons (.tup (SqT.of ha) (.cons (dp_ov _) (.cons (dp_ov _) .nil))) ih
theorem dp_parts {K : PySem.W.Frag} {H : Hp} {t : Addr} {ps : List Stc} (h : PartsT H t ps) : Dp K H (.ref t) (psD ps) := by
  obtain ⟨vs, h, tu⟩ := h
  exact .tup (SqT.of h) (dps_tups tu)
theorem eqv_oD (a b : Option Int) : PyData.eqv (oD a) (oD b) = decide (a = b) := by
  cases a <;> cases b <;> simp [oD, PyData.eqv]
  rw [Bool.eq_iff_iff]
  simp
theorem eqv_stD (a b : Stc) : PyData.eqv (stD a) (stD b) = decide (a = b) := by
  obtain ⟨l, r⟩ := a
  obtain ⟨l', r'⟩ := b
  simp only [stD, PyData.eqv, PyData.eqvAll, eqv_oD, Bool.and_true, Prod.mk.injEq]
  rw [Bool.eq_iff_iff]
  simp
theorem eqvAll_ps : ∀ ps qs : List Stc, PyData.eqvAll (ps.map stD) (qs.map stD) = decide (ps = qs)
  | [], [] => by simp [PyData.eqvAll]
  | [], _ :: _ => by simp [PyData.eqvAll]
  | _ :: _, [] => by simp [PyData.eqvAll]
  | a :: ps, b :: qs => by
    simp only [List.map_cons, PyData.eqvAll, eqv_stD, eqvAll_ps ps qs, List.cons.injEq]
    rw [Bool.eq_iff_iff]
    simp
theorem eqv_psD (ps qs : List Stc) : PyData.eqv (psD ps) (psD qs) = decide (ps = qs) := by
  simp only [psD, PyData.eqv]
  exact eqvAll_ps ps qs
theorem lay_oD (o : Option Int) : (oD o).canLay0 = true := by cases o <;> simp [oD, PyData.canLay0]
theorem lay_stD (s : Stc) : (stD s).canLay0 = true := by simp [stD, PyData.canLay0, PyData.canLayAll0, lay_oD]
theorem lay_ps : ∀ ps : List Stc, PyData.canLayAll0 (ps.map stD) = true
  | [] => by simp [PyData.canLayAll0]
  | a :: ps => by simp [PyData.canLayAll0, lay_stD, lay_ps ps]
theorem dep_oD (o : Option Int) : (oD o).depth = 0 := by cases o <;> simp [oD, PyData.depth]
theorem dep_ps : ∀ ps : List Stc, PyData.depthAll (ps.map stD) ≤ 2
  | [] => by simp [PyData.depthAll]
  | a :: ps => by
    have := dep_ps ps
    simp only [List.map_cons, PyData.depthAll, stD, PyData.depth, dep_oD]
    omega
theorem shaped_ps (ps : List Stc) : SeqAt.shaped (psD ps) = true := by
  have h1 := lay_ps ps
  have h2 := dep_ps ps
  simp only [SeqAt.shaped, psD, PyData.canLay0, h1, PyData.depth, Bool.true_and, decide_eq_true_eq]
  omega

/-- what the text says of the class -/
structure ClsT (K : PySem.W.Frag) (mg : Str → Option Value) (C fI fE : Addr) : Prop where
  cl : Cls K C
  nP : NoAttr K C "parts"
  M : Mk K C fI
  g_C : mg "Ranges" = some (.ref C)
  self : PySem.W.selfFirst K C = true
  eq : OwnEq K C fE
  cls : PySem.W.findIn K (.ref C) "__class__" = some (some (.builtin "object.__class__"))
  get : PySem.W.specialIn K (.builtin "object.__class__") "__get__" = some (some (.builtin "getset_descriptor.__get__"))
  tk : PySem.W.takesIn K (.builtin "object.__class__") = some true
  mro : PySem.W.mroIn K C (.type "object") = some true
  kit : PySem.W.kitOne K (.ref C) (.ref C) = some true
  kn : PySem.W.kitOne K (.type "NoneType") (.ref C) = some false
  kb : PySem.W.kitOne K (.type "bool") (.ref C) = some false
  ki : PySem.W.kitOne K (.type "int") (.ref C) = some false
  ks : PySem.W.kitOne K (.type "str") (.ref C) = some false
  kl : PySem.W.kitOne K (.type "list") (.ref C) = some false
  kt : PySem.W.kitOne K (.type "tuple") (.ref C) = some false
section
variable {P : Program} {w : World} {K : PySem.W.Frag} {mg : Str → Option Value} {base : Heap} {C fI fE : Addr}
theorem Rng.ty {H : Hp} {r : Addr} {ps : List Stc} (T : ClsT K mg C fI fE) (h : Rng C H r ps) : TyX K H (.ref r) (.ref C) := by
  obtain ⟨dx, t, a, _⟩ := h
  exact .base (.ins a T.cl T.cls T.get T.tk T.mro)
theorem ClsT.odd {H : Hp} {y : V} {X : String} (T : ClsT K mg C fI fE) (o : Odd H y X) : PySem.W.kitOne K (.type X) (.ref C) = some false := by
  cases o with
  | non => exact T.kn
  | bl b => exact T.kb
  | int i => exact T.ki
  | str x => exact T.ks
  | lst h => exact T.kl
  | tup h => exact T.kt
abbrev s_Ranges__init : Stmt := inClass (top 1) 0
theorem sc_Ranges__init : FnScope ["self", "parts"] ["self", "parts"] (defScope s_Ranges__init) := ⟨rfl, rfl, rfl, by decide +kernel, rfl, by decide +kernel, by decide +kernel⟩
def sp_init (C : Addr) : Sp := fun vs H Q _ => ∃ x dx t, vs = [.ref x, .ref t] ∧ H x = some (.ins C dx []) ∧ Q .non (upd H x (.ins C dx [("parts", .ref t)]))
theorem ok_init {fd : FuncData} (F : Fun K "__init__" "Ranges.__init__" s_Ranges__init fI fd) (T : ClsT K mg C fI fE) : FnOk P w K mg base CX0 1 fI fd ["self", "parts"] (sp_init C) := by
  refine F.ok sc_Ranges__init (fun vs H Q E h => ?_) (fun cdv A outer s H vs Q E hr h => ?_)
  · obtain ⟨x, dx, t, rfl, _⟩ := h
    rfl
  · obtain ⟨x, dx, t, rfl, hx, q⟩ := h
    refine ⟨_, (pss_one (ps_fld (pv 0) (pv 1) rfl)), ?_⟩
    exact ⟨_, rfl, _, rfl, x, C, dx, [], rfl, hx, T.cl, T.nP, (by show 0 < 1000; decide), q⟩
/-- the promise of __init__ where a set is made -/
abbrev spI (C : Addr) : Sp := fun vs H Q E => sp_init C (vs ++ []) H Q E
theorem mk_rng {H : Hp} {t : Addr} {ps : List Stc} {Q : VK} (hp : PartsT H t ps) (hc : Canon ps) (q : ∀ r H', Same H H' → Rng C H' r ps → Q (.ref r) H') :
    ∀ x dx, H x = none → H dx = none → dx ≠ x → spI C (V.ref x :: [.ref t]) (upd (upd H dx (.own x)) x (.ins C dx [])) (fun v H2 => v = .non ∧ Q (.ref x) H2) E0 := by
  intro x dx hx hdx hne
  refine ⟨x, dx, t, rfl, upd_same, rfl, ?_⟩
  have sm : Same H (upd (upd (upd H dx (.own x)) x (.ins C dx [])) x (.ins C dx [("parts", .ref t)])) := fun b o e => by
    rw [upd_ne (ne_of_none e hx), upd_ne (ne_of_none e hx), upd_ne (ne_of_none e hdx)]
    exact e
  exact q x _ sm ⟨dx, t, upd_same, hp.up sm, hc⟩
theorem canon_nil : Canon [] := ⟨fun s hs => by simp at hs, .nil⟩
theorem canon_one {s : Stc} (h : NE s) : Canon [s] := ⟨fun x hx => by rw [List.mem_singleton.mp hx]; exact h, List.pairwise_singleton ..⟩
/-- «a new set with the integers that g tells» -/
abbrev NewR (C : Addr) (H : Hp) (Q : VK) (n : Nat) (g : Int → Bool) : Prop := ∀ r H' ps, Same H H' → Rng C H' r ps → (∀ k, hasL ps k = g k) → ps.length ≤ n → Q (.ref r) H'
abbrev s_Ranges_between : Stmt := inClass (top 1) 2
theorem sc_Ranges_between : FnScope ["cls", "low", "high"] ["cls", "low", "high"] (defScope s_Ranges_between) := ⟨rfl, rfl, rfl, by decide +kernel, rfl, by decide +kernel, by decide +kernel⟩
def sp_between (C : Addr) : Sp := fun vs H Q _ => ∃ lo hi, vs = [.ref C, ov lo, ov hi] ∧ NewR C H Q 1 (has1 (lo, hi))
theorem ok_between {f : Addr} {fd fdI : FuncData} (F : Fun K "between" "Ranges.between" s_Ranges_between f fd) (FI : Fun K "__init__" "Ranges.__init__" s_Ranges__init fI fdI) (B_init : Binds K fdI ["self", "parts"] []) (T : ClsT K mg C fI fE) :
    FnOk P w K mg base CX0 3 f fd ["cls", "low", "high"] (sp_between C) := by
  have RI : FnR P w K mg base CX0 1 fI (spI C) := FnOk.raw (ok_init FI T) B_init .nil
  have M := T.M
  refine F.ok sc_Ranges_between (fun vs H Q E h => ?_) (fun cdv A outer s H vs Q E hr h => ?_)
  · obtain ⟨lo, hi, rfl, _⟩ := h
    rfl
  · obtain ⟨lo, hi, rfl, q⟩ := h
    refine ⟨_, (pss_cons (ps_if (PW.pt (pw_and (pt_cmpR op_notN (pv 1) pe_non (nomark _)) (pw_and (pt_cmpR op_notN (pv 2) pe_non (nomark _)) (pw_and1 (pt_cmpR op_gt (pv 1) (pv 2) (nomark _))))))
 (pss_one (ps_ret (pe_makeL (i := 0) M RI (hr.mono (by decide)) rfl (Or.inl rfl) pass0 (pa_cons (pe_tup pa_nil) pa_nil))))
 pss_nil)
 (pss_one (ps_ret (pe_makeL (i := 0) M RI (hr.mono (by decide)) rfl (Or.inl rfl) pass0 (pa_cons (pe_tup (pa_cons (pe_tup (pa_cons (pv 1) (pa_cons (pv 2) pa_nil))) pa_nil)) pa_nil))))), ?_⟩
    have full : NE (lo, hi) → tRet (tMakeL 0 C (spI C) E0 (tCons (tTup (tCons (tTup (tCons (tVar 1) (tCons (tVar 2) tNil))) tNil)) tNil)) { nx := fun _ H' => Q .non H', rt := Q } [some (.ref C), some (ov lo), some (ov hi)] H := by
      intro hn
      walk_at "rd"
      refine ⟨rfl, ?_⟩
      unfold StX.tMakeR
      walk_at "rd"
      refine ⟨size_of (Nat.le_of_ble_eq_true rfl), fun p hp => ?_⟩
      obtain ⟨H1, e1, s1, h1⟩ := new_heap (o := .tup [ov lo, ov hi]) hp
      rw [e1]
      walk_at "rd"
      refine ⟨size_of (Nat.le_of_ble_eq_true rfl), fun p' hp' => ?_⟩
      obtain ⟨H2, e2, s2, h2⟩ := new_heap (o := .tup [.ref p]) hp'
      rw [e2]
      walk_at "rd"
      refine mk_rng (ps := [(lo, hi)]) ⟨_, h2, .cons ⟨p, rfl, s2 _ _ h1⟩ .nil⟩ (canon_one hn) fun r H' s3 hr => ?_
      exact q r H' _ (fun b o z => s3 _ _ (s2 _ _ (s1 _ _ z))) hr (fun k => hasL_one _ _) (Nat.le_refl _)
    walk_at "rd"
    cases lo with
    | none =>
      refine ite_nd (fun h => absurd rfl h) fun _ => iteF ?_
      walk_at "rd"
      exact full (fun l h e => nomatch e)
    | some l =>
      refine ite_nd (fun _ => ?_) (fun h => nomatch h)
      walk_at "rd"
      cases hi with
      | none =>
        refine ite_nd (fun h => absurd rfl h) fun _ => iteF ?_
        walk_at "rd"
        exact full (fun l h _ e => nomatch e)
      | some h =>
        refine ite_nd (fun _ => ?_) (fun h => nomatch h)
        walk_at "rd"
        refine ite_d (fun hlt => ?_) (fun hge => ?_)
        · walk_at "rd"
          refine ⟨rfl, ?_⟩
          unfold StX.tMakeR
          walk_at "rd"
          refine ⟨Nat.zero_le _, fun p hp => ?_⟩
          obtain ⟨H1, e1, s1, h1⟩ := new_heap (o := .tup []) hp
          rw [e1]
          walk_at "rd"
          refine mk_rng (ps := []) ⟨_, h1, .nil⟩ canon_nil fun r H' s3 hr => ?_
          refine q r H' _ (fun b o z => s3 _ _ (s1 _ _ z)) hr (fun k => ?_) (Nat.zero_le _)
          rw [hasL_nil]
          simp only [has1]
          rw [eq_comm, Bool.and_eq_false_iff, decide_eq_false_iff_not, decide_eq_false_iff_not]
          omega
        · walk_at "rd"
          exact full (fun a b e1 e2 => by cases e1; cases e2; omega)
abbrev s_Ranges_full : Stmt := inClass (top 1) 3
theorem sc_Ranges_full : FnScope ["cls"] ["cls"] (defScope s_Ranges_full) := ⟨rfl, rfl, rfl, by decide +kernel, rfl, by decide +kernel, by decide +kernel⟩
def sp_full (C : Addr) : Sp := fun vs H Q _ => vs = [.ref C] ∧ ∀ r H', Same H H' → Rng C H' r [(none, none)] → Q (.ref r) H'
theorem ok_full {f : Addr} {fd fdI : FuncData} (F : Fun K "full" "Ranges.full" s_Ranges_full f fd) (FI : Fun K "__init__" "Ranges.__init__" s_Ranges__init fI fdI) (B_init : Binds K fdI ["self", "parts"] []) (T : ClsT K mg C fI fE) :
    FnOk P w K mg base CX0 3 f fd ["cls"] (sp_full C) := by
  have RI : FnR P w K mg base CX0 1 fI (spI C) := FnOk.raw (ok_init FI T) B_init .nil
  have M := T.M
  refine F.ok sc_Ranges_full (fun vs H Q E h => ?_) (fun cdv A outer s H vs Q E hr h => ?_)
  · obtain ⟨rfl, _⟩ := h
    rfl
  · obtain ⟨rfl, q⟩ := h
    refine ⟨_, (pss_one (ps_ret (pe_makeL (i := 0) M RI (hr.mono (by decide)) rfl (Or.inl rfl) pass0 (pa_cons (pe_tup (pa_cons (pe_tup (pa_cons pe_non (pa_cons pe_non pa_nil))) pa_nil)) pa_nil)))), ?_⟩
    walk_at "rd"
    refine ⟨rfl, ?_⟩
    unfold StX.tMakeR
    walk_at "rd"
    refine ⟨size_of (Nat.le_of_ble_eq_true rfl), fun p hp => ?_⟩
    obtain ⟨H1, e1, s1, h1⟩ := new_heap (o := .tup [.non, .non]) hp
    rw [e1]
    walk_at "rd"
    refine ⟨size_of (Nat.le_of_ble_eq_true rfl), fun p' hp' => ?_⟩
    obtain ⟨H2, e2, s2, h2⟩ := new_heap (o := .tup [.ref p]) hp'
    rw [e2]
    walk_at "rd"
    refine mk_rng (ps := [(none, none)]) ⟨_, h2, .cons ⟨p, rfl, s2 _ _ h1⟩ .nil⟩ (canon_one fun l h e => nomatch e) fun r H' s3 hr => ?_
    exact q r H' (fun b o z => s3 _ _ (s2 _ _ (s1 _ _ z))) hr
abbrev s_Ranges_empty : Stmt := inClass (top 1) 4
theorem sc_Ranges_empty : FnScope ["cls"] ["cls"] (defScope s_Ranges_empty) := ⟨rfl, rfl, rfl, by decide +kernel, rfl, by decide +kernel, by decide +kernel⟩
def sp_empty (C : Addr) : Sp := fun vs H Q _ => vs = [.ref C] ∧ ∀ r H', Same H H' → Rng C H' r [] → Q (.ref r) H'
theorem ok_empty {f : Addr} {fd fdI : FuncData} (F : Fun K "empty" "Ranges.empty" s_Ranges_empty f fd) (FI : Fun K "__init__" "Ranges.__init__" s_Ranges__init fI fdI) (B_init : Binds K fdI ["self", "parts"] []) (T : ClsT K mg C fI fE) :
    FnOk P w K mg base CX0 3 f fd ["cls"] (sp_empty C) := by
  have RI : FnR P w K mg base CX0 1 fI (spI C) := FnOk.raw (ok_init FI T) B_init .nil
  have M := T.M
  refine F.ok sc_Ranges_empty (fun vs H Q E h => ?_) (fun cdv A outer s H vs Q E hr h => ?_)
  · obtain ⟨rfl, _⟩ := h
    rfl
  · obtain ⟨rfl, q⟩ := h
    refine ⟨_, (pss_one (ps_ret (pe_makeL (i := 0) M RI (hr.mono (by decide)) rfl (Or.inl rfl) pass0 (pa_cons (pe_tup pa_nil) pa_nil)))), ?_⟩
    walk_at "rd"
    refine ⟨rfl, ?_⟩
    unfold StX.tMakeR
    walk_at "rd"
    refine ⟨Nat.zero_le _, fun p hp => ?_⟩
    obtain ⟨H1, e1, s1, h1⟩ := new_heap (o := .tup []) hp
    rw [e1]
    walk_at "rd"
    refine mk_rng (ps := []) ⟨_, h1, .nil⟩ canon_nil fun r H' s3 hr => ?_
    exact q r H' (fun b o z => s3 _ _ (s1 _ _ z)) hr
/-! ### a | b -/
abbrev s_Ranges__or : Stmt := inClass (top 1) 5
theorem sc_Ranges__or : FnScope ["self", "other"] ["self", "other"] (defScope s_Ranges__or) := ⟨rfl, rfl, rfl, by decide +kernel, rfl, by decide +kernel, by decide +kernel⟩
def sp_or (C : Addr) : Sp := fun vs H Q _ => ∃ a b ps qs, vs = [.ref a, .ref b] ∧ Rng C H a ps ∧ Rng C H b qs ∧ ps.length + qs.length ≤ 1000 ∧ NewR C H Q (ps.length + qs.length) fun k => hasL ps k || hasL qs k
theorem tups_append {H : Hp} {vs ws : List V} {ps qs : List Stc} (h : Tups H vs ps) (h' : Tups H ws qs) : Tups H (vs ++ ws) (ps ++ qs) := by
  induction h with
  | nil => exact h'
  | cons r t ih => exact .cons r ih
theorem lk_parts {t : Addr} : ([("parts", V.ref t)] : List (Str × V)).lookup ("parts" : Str) = some (V.ref t) := by
  show (match (("parts" : Str) == "parts") with | true => some (V.ref t) | false => none) = some (V.ref t)
  rw [beq_self_eq_true]
theorem ok_or {f fJ : Addr} {fd fdI fdJ : FuncData} (F : Fun K "__or__" "Ranges.__or__" s_Ranges__or f fd) (FI : Fun K "__init__" "Ranges.__init__" s_Ranges__init fI fdI) (B_init : Binds K fdI ["self", "parts"] []) (T : ClsT K mg C fI fE)
    (F_joined : Fun K "joined" "joined" s_joined fJ fdJ) (B_joined : Binds K fdJ ["stretches"] []) (g_joined : mg "joined" = some (.ref fJ)) (G_joined : FnOk P w K mg base CX0 4 fJ fdJ ["stretches"] (sp_joined K)) :
    FnOk P w K mg base CX0 5 f fd ["self", "other"] (sp_or C) := by
  have RI : FnR P w K mg base CX0 1 fI (spI C) := FnOk.raw (ok_init FI T) B_init .nil
  have M := T.M
  have g_C := T.g_C
  refine F.ok sc_Ranges__or (fun vs H Q E h => ?_) (fun cdv A outer s H vs Q E hr h => ?_)
  · obtain ⟨a, b, ps, qs, rfl, _⟩ := h
    rfl
  · obtain ⟨a, b, ps, qs, rfl, ⟨dx, t, ha, ⟨vs, ht, tu⟩, ca⟩, ⟨dy, u, hb, ⟨ws, hu, tw⟩, cb⟩, hz, q⟩ := h
    refine ⟨_, (pss_one (ps_ret (StX.pe_makeR M RI (hr.mono (by decide)) rfl g_C pass0 (pa_cons (pe_call G_joined (hr.mono (by decide)) rfl g_joined F_joined.kp B_joined .nil pass0 (pa_cons (pe_op op_catA (pe_fld (pv 0) rfl) (pe_fld (pv 1) rfl)) pa_nil)) pa_nil)))), ?_⟩
    have l1 := tups_len tu
    have l2 := tups_len tw
    have hne : ∀ s, s ∈ ps ++ qs → NE s := fun s hs => (List.mem_append.mp hs).elim (ca.ne s) (cb.ne s)
    have fin : ∀ (p : Addr) (H1 : Hp), Same H H1 → H1 p = some (.tup (vs ++ ws)) → sp_joined K [.ref p] H1 (fun v H2 => ∀ x dx, H2 x = none → H2 dx = none → dx ≠ x → spI C (V.ref x :: [v]) (upd (upd H2 dx (.own x)) x (.ins C dx [])) (fun v H2 => v = .non ∧ Q (.ref x) H2) E0) E0 := by
      intro p H1 s1 hp
      refine ⟨p, vs ++ ws, ps ++ qs, rfl, .inr (SqT.of hp), tups_append (tu.up s1) (tw.up s1), by rw [List.length_append]; exact hz, hne, fun r H2 rs s2 hr hc hm hl => ?_⟩
      refine mk_rng hr hc fun x H3 s3 hx => ?_
      exact q x H3 rs (fun b o z => s3 _ _ (s2 _ _ (s1 _ _ z))) hx (fun k => by rw [hm k, hasL_append]) (by rw [List.length_append] at hl; exact hl)
    unfold StX.tMakeR
    walk_at "rd"
    refine ⟨_, rfl, a, C, dx, _, _, rfl, ha, T.cl, T.nP, lk_parts, ?_⟩
    refine ⟨_, rfl, b, C, dy, _, _, rfl, hb, T.cl, T.nP, lk_parts, ?_⟩
    refine ⟨t, u, vs, ws, rfl, rfl, SqT.of ht, SqT.of hu, size_of (by omega), fun e => ?_, fun _ e => ?_, fun _ _ p hp => ?_⟩
    · subst e
      exact fin u H (Same.refl H) hu
    · subst e
      exact fin t H (Same.refl H) (by rw [List.append_nil]; exact ht)
    · obtain ⟨H1, e1, s1, h1⟩ := new_heap (o := .tup (vs ++ ws)) hp
      rw [e1]
      exact fin p H1 s1 h1

/-! ### Ranges.of(*numbers) -/
def singles (ns : List Int) : List Stc := ns.map fun n => (some n, some n)
abbrev s_Ranges_of : Stmt := inClass (top 1) 1
theorem sc_Ranges_of : FnScope ["cls", "numbers", "number"] ["cls", "numbers"] (defScope s_Ranges_of) := ⟨rfl, rfl, rfl, by decide +kernel, rfl, by decide +kernel, by decide +kernel⟩
def sp_ofI (C : Addr) : Sp := fun vs H Q _ => ∃ t ns, vs = [.ref C, .ref t] ∧ H t = some (.tup (ns.map V.int)) ∧ ns.length ≤ 1000 ∧ NewR C H Q ns.length (hasL (singles ns))
/-- as it is called -/
def sp_of (C : Addr) : Sp := fun vs H Q _ => ∃ ns : List Int, vs = .ref C :: ns.map V.int ∧ ns.length ≤ 1000 ∧ NewR C H Q ns.length (hasL (singles ns))
structure OInv (H0 : Hp) (t D : Addr) (ns : List Int) (i : Nat) (H : Hp) : Prop where
  ex : ∃ vs, Same H0 H ∧ H D = some (.lst vs) ∧ Tups H vs (singles (ns.take i))
theorem singles_ne (ns : List Int) : ∀ s, s ∈ singles ns → NE s := fun s hs => by
  obtain ⟨n, _, rfl⟩ := List.mem_map.mp hs
  intro l h e1 e2
  cases e1
  cases e2
  exact Int.le_refl _
theorem ok_of {f fJ : Addr} {fd fdI fdJ : FuncData} (F : Fun K "of" "Ranges.of" s_Ranges_of f fd) (FI : Fun K "__init__" "Ranges.__init__" s_Ranges__init fI fdI) (B_init : Binds K fdI ["self", "parts"] []) (T : ClsT K mg C fI fE)
    (F_joined : Fun K "joined" "joined" s_joined fJ fdJ) (B_joined : Binds K fdJ ["stretches"] []) (g_joined : mg "joined" = some (.ref fJ)) (G_joined : FnOk P w K mg base CX0 4 fJ fdJ ["stretches"] (sp_joined K)) :
    FnR P w K mg base CX0 5 f (sp_of C) := by
  have RI : FnR P w K mg base CX0 1 fI (spI C) := FnOk.raw (ok_init FI T) B_init .nil
  have M := T.M
  refine FnR.imp (F.okStar (ps := ["cls"]) (pv := "numbers") (sp := sp_ofI C) sc_Ranges_of (fun kV doc pm an cdv ct => StX.bind_star1 (B := fun us => bindArgs (PySem.W.fnOf "of" "Ranges.of" (defArgs s_Ranges_of) (defBody s_Ranges_of) (defScope s_Ranges_of) .none kV doc pm an cdv ct) ⟨us, []⟩) (fun _ => rfl) fun _ _ _ => rfl) (fun cdv A outer s H vs Q E hr h => ?_)) ?_
  · obtain ⟨t, ns, rfl, ht, hz, q⟩ := h
    refine ⟨_, (pss_one (ps_ret (pe_makeL (i := 0) M RI (hr.mono (by decide)) rfl (Or.inl rfl) pass0 (pa_cons (pe_call G_joined (hr.mono (by decide)) rfl g_joined F_joined.kp B_joined .nil pass0 (pa_cons (pe_lc (own := [("number", 2)]) (g := gName 2) (tt := tYes) rfl sc_Ranges_of.nd (pi_tup (pv 1)) (blkOk_by (own := [("number", 2)]) (N := ["cls", "numbers", "number"]) (sc := defScope s_Ranges_of) (by decide +kernel)) (fun _ _ _ _ _ => pg_name (i := 2) sc_Ranges_of.nd rfl (Or.inl rfl)) (fun _ _ _ _ _ => pts_nil) (fun _ _ _ _ _ => (pe_tup (pa_cons (pv 2) (pa_cons (pv 2) pa_nil))))) pa_nil)) pa_nil)))), ?_⟩
    walk_at "rd"
    refine ⟨rfl, ?_⟩
    unfold StX.tMakeR
    walk_at "rd"
    refine ⟨_, rfl, t, rfl, ⟨_, SqT.of ht⟩, fun D hD => ?_⟩
    obtain ⟨H1, e1, s1, h1⟩ := new_heap (o := .lst []) hD
    refine lc_tup (K := K) (a := t) (xs := ns.map V.int) (OInv H t D ns) ⟨[], by rw [e1]; exact s1, by rw [e1]; exact h1, .nil⟩ ?_ ?_ ?_
    · rintro i H' _ ⟨vs, sm, _⟩
      exact SqT.of (sm _ _ ht)
    · rintro i x H' hx ⟨vs, sm, hd, tu⟩
      have hi : i < ns.length := by
        have := (List.getElem?_eq_some_iff.mp hx).1
        simpa using this
      have ex : x = .int ns[i] := by
        rw [List.getElem?_map, List.getElem?_eq_getElem hi] at hx
        exact (Option.some.inj hx).symm
      subst ex
      walk_at "rd"
      refine ⟨rfl, i_yes (iteT ?_)⟩
      walk_at "rd"
      refine ⟨size_of (Nat.le_of_ble_eq_true rfl), fun p hp => ?_⟩
      obtain ⟨H2, e2, s2, h2⟩ := new_heap (o := .tup [.int ns[i], .int ns[i]]) hp
      rw [e2]
      have hl := tups_len tu
      have hl2 : vs.length ≤ 100000 := by
        rw [hl]
        simp only [singles, List.length_map, List.length_take]
        omega
      refine ⟨vs, s2 _ _ hd, size_lt hl2, ⟨vs ++ [.ref p], Same.mut (fun b o z => s2 _ _ (sm _ _ z)) hD, upd_same, ?_⟩⟩
      have e : singles (ns.take (i + 1)) = singles (ns.take i) ++ [(some ns[i], some ns[i])] := by
        simp only [singles, List.take_succ_eq_append_getElem hi, List.map_append, List.map_cons, List.map_nil]
      rw [e]
      exact Tups.mut (tups_snoc (tu.up s2) ⟨p, rfl, h2⟩) (s2 _ _ hd)
    · rintro H' ⟨vs, sm, hd, tu⟩
      rw [List.length_map, List.take_length] at tu
      refine ⟨D, vs, singles ns, rfl, .inl (SqL.of hd), tu, by simpa [singles] using hz, singles_ne ns, fun p H2 ps s2 hp hc hm hl => ?_⟩
      refine mk_rng hp hc fun r H3 s3 hr => ?_
      exact q r H3 ps (fun b o z => s3 _ _ (s2 _ _ (sm _ _ z))) hr hm (by simpa [singles] using hl)
  · rintro vs H Q E ⟨ns, rfl, hz, q⟩
    refine ⟨[.ref C], ns.map V.int, rfl, rfl, size_of (by rw [List.length_map]; omega), fun p hp => ?_⟩
    obtain ⟨H1, e1, s1, h1⟩ := new_heap (o := .tup (ns.map V.int)) hp
    rw [e1]
    exact ⟨p, ns, rfl, h1, hz, fun r H' ps sm hr hm hl => q r H' ps (fun b o z => sm _ _ (s1 _ _ z)) hr hm hl⟩
/-! ### ==, in, bool -/
abbrev s_Ranges__eq : Stmt := inClass (top 1) 8
theorem sc_Ranges__eq : FnScope ["self", "other"] ["self", "other"] (defScope s_Ranges__eq) := ⟨rfl, rfl, rfl, by decide +kernel, rfl, by decide +kernel, by decide +kernel⟩
def sp_eq (C : Addr) : Sp := fun vs H Q _ => ∃ a y ps k, vs = [.ref a, y] ∧ Rng C H a ps ∧ ((∃ b qs, y = .ref b ∧ Rng C H b qs ∧ k = decide (ps = qs)) ∨ (∃ T, Odd H y T ∧ k = false)) ∧ Q (.bl k) H
theorem ok_eq {fd : FuncData} (F : Fun K "__eq__" "Ranges.__eq__" s_Ranges__eq fE fd) (T : ClsT K mg C fI fE) (z_isinstance : mg "isinstance" = none) : FnOk P w K mg base CX0 1 fE fd ["self", "other"] (sp_eq C) := by
  have g_C := T.g_C
  refine F.ok sc_Ranges__eq (fun vs H Q E h => ?_) (fun cdv A outer s H vs Q E hr h => ?_)
  · obtain ⟨a, y, ps, k, rfl, _⟩ := h
    rfl
  · obtain ⟨a, y, ps, k, rfl, ra, h, q⟩ := h
    refine ⟨_, (pss_one (ps_ret (pe_and (pe_callB call_isi (by rfl) z_isinstance (by decide +kernel) (pa_cons (pv 1) (pa_cons (pe_glob rfl g_C (relR _)) pa_nil))) (pe_one (pe_cmpR (op_eqD hr.units) (pe_fld (pv 0) rfl) (pe_fld (pv 1) rfl) (nomark _)))))), ?_⟩
    walk_at "rd"
    rcases h with ⟨b, qs, rfl, rb, rfl⟩ | ⟨X, o, rfl⟩
    · refine ⟨_, _, _, _, true, rfl, .own C, rb.ty T, T.kit, true, rfl, iteT ?_⟩
      obtain ⟨dx, t, ha, pa, _⟩ := ra
      obtain ⟨dy, u, hb, pb, _⟩ := rb
      walk_at "rd"
      refine ⟨_, rfl, a, C, dx, _, _, rfl, ha, T.cl, T.nP, lk_parts, ?_⟩
      refine ⟨_, rfl, b, C, dy, _, _, rfl, hb, T.cl, T.nP, lk_parts, ?_⟩
      refine ⟨psD ps, psD qs, dp_parts pa, dp_parts pb, shaped_ps ps, shaped_ps qs, ?_⟩
      rw [eqv_psD]
      exact q
    · exact ⟨_, _, _, _, false, rfl, .own C, o.ty, T.odd o, false, rfl, iteF q⟩
abbrev s_Ranges__contains : Stmt := inClass (top 1) 9
theorem sc_Ranges__contains : FnScope ["self", "value"] ["self", "value"] (defScope s_Ranges__contains) := ⟨rfl, rfl, rfl, by decide +kernel, rfl, by decide +kernel, by decide +kernel⟩
/-- any other value, by its type -/
def Other (K : PySem.W.Frag) (H : Hp) (y : V) : Prop := ∃ t, TyX K H y t ∧ (PySem.W.kitOne K t (.type "int") = some false ∨ (PySem.W.kitOne K t (.type "int") = some true ∧ PySem.W.kitOne K t (.type "bool") = some true))
def sp_contains (K : PySem.W.Frag) (C : Addr) : Sp := fun vs H Q _ => ∃ a y ps k, vs = [.ref a, y] ∧ Rng C H a ps ∧ ((∃ n, y = .int n ∧ k = hasL ps n) ∨ (Other K H y ∧ k = false)) ∧ Q (.bl k) H
theorem ok_contains {f fN : Addr} {fd fdN : FuncData} (F : Fun K "__contains__" "Ranges.__contains__" s_Ranges__contains f fd) (T : ClsT K mg C fI fE) (z_isinstance : mg "isinstance" = none) (z_int : mg "int" = none) (z_bool : mg "bool" = none) (z_len : mg "len" = none)
    (F_in_parts : Fun K "in_parts" "in_parts" s_in_parts fN fdN) (B_in_parts : Binds K fdN ["parts", "number"] []) (g_in_parts : mg "in_parts" = some (.ref fN)) : FnOk P w K mg base CX0 2 f fd ["self", "value"] (sp_contains K C) := by
  have G_in_parts : FnOk P w K mg base CX0 1 fN fdN ["parts", "number"] sp_in_parts := ok_in_parts F_in_parts z_len
  refine F.ok sc_Ranges__contains (fun vs H Q E h => ?_) (fun cdv A outer s H vs Q E hr h => ?_)
  · obtain ⟨a, y, ps, k, rfl, _⟩ := h
    rfl
  · obtain ⟨a, y, ps, k, rfl, ra, h, q⟩ := h
    refine ⟨_, (pss_one (ps_ret (pe_and (pe_callB call_isi (by rfl) z_isinstance (by decide +kernel) (pa_cons (pv 1) (pa_cons (pe_bltn (v := .ty "int") (u := .type "int") (by rfl) z_int (by decide +kernel) rfl) pa_nil))) (pe_and (pe_not (pe_callB call_isi (by rfl) z_isinstance (by decide +kernel) (pa_cons (pv 1) (pa_cons (pe_bltn (v := .ty "bool") (u := .type "bool") (by rfl) z_bool (by decide +kernel) rfl) pa_nil)))) (pe_one (pe_call G_in_parts (hr.mono (by decide)) rfl g_in_parts F_in_parts.kp B_in_parts .nil pass0 (pa_cons (pe_fld (pv 0) rfl) (pa_cons (pv 1) pa_nil)))))))), ?_⟩
    walk_at "rd"
    rcases h with ⟨n, rfl, rfl⟩ | ⟨⟨t, ty, ho⟩, rfl⟩
    · refine ⟨_, _, _, _, true, rfl, .ty "int", .base (.int n), kit_ty (by decide +kernel), true, rfl, iteT ?_⟩
      walk_at "rd"
      refine ⟨_, _, _, _, false, rfl, .ty "bool", .base (.int n), kit_ty (by decide +kernel), false, rfl, ?_⟩
      refine ⟨true, rfl, iteT ?_⟩
      obtain ⟨dx, t, ha, pa, ca⟩ := ra
      walk_at "rd"
      refine ⟨_, rfl, a, C, dx, _, _, rfl, ha, T.cl, T.nP, lk_parts, ?_⟩
      walk_at "rd"
      exact ⟨t, ps, n, rfl, pa, ca, q⟩
    · rcases ho with h1 | ⟨h1, h2⟩
      · exact ⟨_, _, _, _, false, rfl, .ty "int", ty, h1, false, rfl, iteF q⟩
      · refine ⟨_, _, _, _, true, rfl, .ty "int", ty, h1, true, rfl, iteT ?_⟩
        walk_at "rd"
        refine ⟨_, _, _, _, true, rfl, .ty "bool", ty, h2, true, rfl, ?_⟩
        exact ⟨false, rfl, iteF q⟩
abbrev s_Ranges__bool : Stmt := inClass (top 1) 10
theorem sc_Ranges__bool : FnScope ["self"] ["self"] (defScope s_Ranges__bool) := ⟨rfl, rfl, rfl, by decide +kernel, rfl, by decide +kernel, by decide +kernel⟩
def sp_bool (C : Addr) : Sp := fun vs H Q _ => ∃ a ps, vs = [.ref a] ∧ Rng C H a ps ∧ Q (.bl (!ps.isEmpty)) H
theorem ok_bool {f : Addr} {fd : FuncData} (F : Fun K "__bool__" "Ranges.__bool__" s_Ranges__bool f fd) (T : ClsT K mg C fI fE) (z_bool : mg "bool" = none) : FnOk P w K mg base CX0 1 f fd ["self"] (sp_bool C) := by
  refine F.ok sc_Ranges__bool (fun vs H Q E h => ?_) (fun cdv A outer s H vs Q E hr h => ?_)
  · obtain ⟨a, ps, rfl, _⟩ := h
    rfl
  · obtain ⟨a, ps, rfl, ⟨dx, t, ha, ⟨vs, ht, tu⟩, _⟩, q⟩ := h
    refine ⟨_, (pss_one (ps_ret (pe_callTy call_boolT (by rfl) z_bool (by decide +kernel) (pa_cons (pe_fld (pv 0) rfl) pa_nil)))), ?_⟩
    walk_at "rd"
    refine ⟨_, rfl, a, C, dx, _, _, rfl, ha, T.cl, T.nP, lk_parts, ?_⟩
    walk_at "rd"
    refine ⟨t, vs, rfl, SqT.of ht, ?_⟩
    have e : vs.isEmpty = ps.isEmpty := by
      cases tu <;> rfl
    rw [e]
    exact q
end
end Spk

set_option Elab.async false
set_option linter.all false
set_option maxRecDepth 100000
set_option maxHeartbeats 1000000
namespace Spk
open PySem L2
local macro_rules | `(tactic| walk_at "rd") => `(tactic| repeat (first
  | with_reducible refine i_seq ?_ | with_reducible refine i_asg ?_ | with_reducible refine i_ret ?_ | with_reducible refine i_ifS ?_ | with_reducible refine i_if ?_
  | with_reducible refine i_for ?_ | with_reducible refine i_iL ?_ | with_reducible refine i_iT ?_ | with_reducible refine i_ckw ?_ | with_reducible refine i_cm ?_ | with_reducible refine And.intro (rfl : V.ref _ = V.ref _) ?_ | with_reducible refine i_rng1 ?_ | with_reducible refine i_bm ?_ | with_reducible refine i_bm0 ?_
  | with_reducible refine i_drop ?_ | with_reducible refine i_next ?_
  | with_reducible refine i_var rfl ?_ | with_reducible refine i_c ?_ | with_reducible refine i_op ?_ | with_reducible refine i_un ?_ | with_reducible refine i_name ?_
  | with_reducible refine i_rI0 ?_ | with_reducible refine i_rU ?_ | with_reducible refine i_rEq rfl ?_ | with_reducible refine i_rNe rfl ?_
  | with_reducible refine i_test ?_ | with_reducible refine i_tB ?_ | with_reducible refine i_and ?_ | with_reducible refine i_or ?_ | with_reducible refine i_not ?_
  | with_reducible refine i_andV ?_ | with_reducible refine i_orV ?_ | with_reducible refine i_notV ?_
  | with_reducible refine i_cons ?_ | with_reducible refine i_nil ?_ | with_reducible refine i_cb ?_ | with_reducible refine i_call ?_ | with_reducible refine i_bl ?_
  | with_reducible refine i_tup ?_ | with_reducible refine i_lst ?_ | with_reducible refine i_par ?_ | with_reducible refine i_gcons ?_ | with_reducible refine i_gnil ?_
  | with_reducible refine And.intro (rfl : V.non = V.non) ?_ | with_reducible refine i_ixT (by assumption) rfl ?_ | with_reducible refine i_ixL (by assumption) rfl ?_ | with_reducible refine i_gtup (by assumption) rfl ?_
  | with_reducible refine i_gsub ?_
  | with_reducible refine Or.inl (Exists.intro _ (And.intro (rfl : [V.int _] = [V.int _]) ?_)) | with_reducible refine Exists.intro _ (And.intro (rfl : [V.int _] = [V.int _]) ?_)
  | with_reducible refine Or.inr (Exists.intro _ (And.intro (rfl : [V.bl _] = [V.bl _]) ?_))
  | with_reducible refine Exists.intro _ (Exists.intro _ (And.intro (rfl : [V.int _, V.int _] = [V.int _, V.int _]) ?_))
  | with_reducible refine Exists.intro _ (Exists.intro _ (And.intro (rfl : [V.ref _] = [V.ref _]) (And.intro (Or.inl (SqL.of (by assumption))) ?_)))
  | with_reducible refine i_rI (show (0 : Int) < _ by assumption) ?_ | with_reducible refine i_rI (show (0 : Int) < _ by decide) ?_
  | with_reducible refine i_rI (pow_ok (Nat.le_of_ble_eq_true rfl) (Nat.le_of_ble_eq_true rfl)) ?_
  | with_reducible refine i_rI (cmulL rfl) ?_))
/-! ### the pen: what is drawn from the script -/
def penny : HO → Bool
  | .lst [.ref _, .int _, .int _] => true
  | _ => false
/-- all but a pen is as it was -/
def Keep (H H' : Hp) : Prop := ∀ b o, penny o = false → H b = some o → H' b = some o
theorem Keep.refl (H : Hp) : Keep H H := fun _ _ _ h => h
theorem Keep.trans {H H1 H2 : Hp} (a : Keep H H1) (b : Keep H1 H2) : Keep H H2 := fun c o p h => b c o p (a c o p h)
theorem Same.keep {H H' : Hp} (e : Same H H') : Keep H H' := fun b o _ h => e b o h
def Pen (H : Hp) (p L : Addr) (n : Nat) : Prop := ∃ (ns : List Int) (at_ lg : Int), H p = some (.lst [.ref L, .int at_, .int lg]) ∧ H L = some (.lst (ns.map V.int)) ∧ ns.length ≤ 63 ∧ 0 ≤ at_ ∧ at_ ≤ n ∧ 0 ≤ lg
theorem Pen.up {H H' : Hp} {p L : Addr} {n : Nat} (e : Same H H') (h : Pen H p L n) : Pen H' p L n := by
  obtain ⟨ns, a, l, h1, h2, r⟩ := h
  exact ⟨ns, a, l, e _ _ h1, e _ _ h2, r⟩
theorem Pen.mono {H : Hp} {p L : Addr} {n m : Nat} (h : Pen H p L n) (e : n ≤ m) : Pen H p L m := by
  obtain ⟨ns, a, l, h1, h2, h3, h4, h5, h6⟩ := h
  exact ⟨ns, a, l, h1, h2, h3, h4, by omega, h6⟩
theorem penny_ints (ns : List Int) : penny (.lst (ns.map V.int)) = false := by
  cases ns <;> rfl
/-- a pen is written anew -/
theorem pen_set {H : Hp} {p L : Addr} {ns : List Int} {a l a' l' : Int} {n : Nat} (hp : H p = some (.lst [.ref L, .int a, .int l])) (hL : H L = some (.lst (ns.map V.int))) (h1 : ns.length ≤ 63) (h2 : 0 ≤ a') (h3 : a' ≤ n) (h4 : 0 ≤ l') :
    Keep H (upd H p (.lst [.ref L, .int a', .int l'])) ∧ Pen (upd H p (.lst [.ref L, .int a', .int l'])) p L n := by
  refine ⟨fun b o hb e => ?_, ns, a', l', upd_same, ?_, h1, h2, h3, h4⟩
  · have : b ≠ p := fun z => by
      subst z
      rw [hp] at e
      cases e
      simp [penny] at hb
    rw [upd_ne this]
    exact e
  · have : L ≠ p := fun z => by
      subst z
      rw [hp] at hL
      have := penny_ints ns
      rw [← HO.lst.inj (Option.some.inj hL)] at this
      simp [penny] at this
    rw [upd_ne this]
    exact hL
theorem pen_put {H : Hp} {p L : Addr} {ns : List Int} {a l a' l' : Int} (hp : H p = some (.lst [.ref L, .int a, .int l])) (hL : H L = some (.lst (ns.map V.int))) :
    ∃ H1, upd H p (.lst [.ref L, .int a', .int l']) = H1 ∧ Keep H H1 ∧ H1 p = some (.lst [.ref L, .int a', .int l']) ∧ H1 L = some (.lst (ns.map V.int)) := by
  have : L ≠ p := fun z => by
    subst z
    rw [hp] at hL
    have := penny_ints ns
    rw [← HO.lst.inj (Option.some.inj hL)] at this
    simp [penny] at this
  refine ⟨_, rfl, fun b o hb e => ?_, upd_same, by rw [upd_ne this]; exact hL⟩
  have : b ≠ p := fun z => by
    subst z
    rw [hp] at e
    cases e
    simp [penny] at hb
  rw [upd_ne this]
  exact e
theorem dps_ints {K : PySem.W.Frag} {H : Hp} : ∀ ns : List Int, DpAll K H (ns.map V.int) (ns.map PyData.int)
  | [] => .nil
  | n :: ns => .cons (.int n) (dps_ints ns)
theorem eqv_ints : ∀ ns ms : List Int, PyData.eqvAll (ns.map PyData.int) (ms.map PyData.int) = decide (ns = ms)
  | [], [] => by simp [PyData.eqvAll]
  | [], _ :: _ => by simp [PyData.eqvAll]
  | _ :: _, [] => by simp [PyData.eqvAll]
  | a :: ns, b :: ms => by
    simp only [List.map_cons, PyData.eqvAll, PyData.eqv, eqv_ints ns ms, List.cons.injEq]
    rw [Bool.eq_iff_iff]
    simp
theorem lay_ints : ∀ ns : List Int, PyData.canLayAll0 (ns.map PyData.int) = true
  | [] => by simp [PyData.canLayAll0]
  | n :: ns => by simp [PyData.canLayAll0, PyData.canLay0, lay_ints ns]
theorem dep_ints : ∀ ns : List Int, PyData.depthAll (ns.map PyData.int) ≤ 1
  | [] => by simp [PyData.depthAll]
  | n :: ns => by
    have := dep_ints ns
    simp only [List.map_cons, PyData.depthAll, PyData.depth]
    omega
theorem shaped_ints (ns : List Int) : SeqAt.shaped (.list (ns.map PyData.int)) = true := by
  have h1 := lay_ints ns
  have h2 := dep_ints ns
  have h3 : (PyData.list (ns.map PyData.int)).depth ≤ 2 := by
    simp only [PyData.depth]
    omega
  unfold SeqAt.shaped
  rw [Bool.and_eq_true, decide_eq_true_eq]
  exact ⟨by simpa only [PyData.canLay0] using h1, by omega⟩
theorem mul_bd {a b A B : Int} (h1 : 0 ≤ a) (h2 : a ≤ A) (h3 : 0 ≤ b) (h4 : b ≤ B) : 0 ≤ a * b ∧ a * b ≤ A * B :=
  ⟨Int.mul_nonneg h1 h3, Int.mul_le_mul h2 h4 h3 (Int.le_trans h1 h2)⟩
section
variable {P : Program} {w : World} {K : PySem.W.Frag} {mg : Str → Option Value} {base : Heap}
abbrev s_pen : Stmt := top 13
theorem sc_pen : FnScope ["_law_script"] ["_law_script"] (defScope s_pen) := ⟨rfl, rfl, rfl, by decide +kernel, rfl, by decide +kernel, by decide +kernel⟩
def sp_pen (K : PySem.W.Frag) : Sp := fun vs H Q _ => ∃ a, ∃ ns : List Int, vs = [.ref a] ∧ SqL K H a (ns.map V.int) ∧ ns.length ≤ 63 ∧ ∀ p L H', Same H H' → Pen H' p L 0 → Q (.ref p) H'
theorem cut_ints (ns : List Int) (lo hi : Option Int) : ∃ ns' : List Int, cutV (ns.map V.int) lo hi = ns'.map V.int ∧ ns'.length ≤ ns.length := by
  refine ⟨(ns.drop (HT.sIx (ns.map V.int).length 0 lo)).take (HT.sIx (ns.map V.int).length (ns.map V.int).length hi - HT.sIx (ns.map V.int).length 0 lo), ?_, ?_⟩
  · unfold cutV
    rw [List.map_take, List.map_drop]
  · rw [List.length_take, List.length_drop]
    omega
theorem ok_pen {f : Addr} {fd : FuncData} (F : Fun K "_law_pen" "_law_pen" s_pen f fd) (z_list : mg "list" = none) : FnOk P w K mg base CX0 1 f fd ["_law_script"] (sp_pen K) := by
  refine F.ok sc_pen (fun vs H Q E h => ?_) (fun cdv A outer s H vs Q E hr h => ?_)
  · obtain ⟨a, ns, rfl, _⟩ := h
    rfl
  · obtain ⟨a, ns, rfl, ha, hz, q⟩ := h
    refine ⟨_, (pss_one (ps_ret (pe_lst (pa_cons (pe_callTy call_list_of (by rfl) z_list (by decide +kernel) (pa_cons (pe_slice sl_list (pv 0) po_none (po_some pe_int)) pa_nil)) (pa_cons pe_int (pa_cons pe_int pa_nil)))))), ?_⟩
    walk_at "rd"
    refine ⟨_, rfl, 63, rfl, a, _, rfl, ha, fun p hp => ?_⟩
    obtain ⟨ns', e, hl⟩ := cut_ints ns none (some 63)
    rw [e]
    obtain ⟨H1, e1, s1, h1⟩ := new_heap (o := .lst (ns'.map V.int)) hp
    rw [e1]
    walk_at "rd"
    intro l hl'
    obtain ⟨H2, e2, s2, h2⟩ := new_heap (o := .lst (ns'.map V.int)) hl'
    rw [e2]
    walk_at "rd"
    refine ⟨size_of (Nat.le_of_ble_eq_true rfl), fun r hr => ?_⟩
    obtain ⟨H3, e3, s3, h3⟩ := new_heap (o := .lst [.ref l, .int 0, .int 0]) hr
    rw [e3]
    exact q r l H3 (fun b o z => s3 _ _ (s2 _ _ (s1 _ _ z))) ⟨ns', 0, 0, h3, s3 _ _ h2, by omega, Int.le_refl _, Int.le_refl _, Int.le_refl _⟩
abbrev s_draw : Stmt := top 14
theorem sc_draw : FnScope ["_law_pen_here", "_law_many", "_law_digit", "_law_at", "_law_cell", "_law_large", "_law_mixed"] ["_law_pen_here", "_law_many"] (defScope s_draw) := ⟨rfl, rfl, rfl, by decide +kernel, rfl, by decide +kernel, by decide +kernel⟩
def sp_draw : Sp := fun vs H Q _ => ∃ p L n m, vs = [.ref p, .int m] ∧ Pen H p L n ∧ n ≤ 10000 ∧ 0 < m ∧ m ≤ 1000000000000 ∧ ∀ d H', 0 ≤ d → d < m → Keep H H' → Pen H' p L (n + 1) → Q (.int d) H'
theorem ok_draw {f : Addr} {fd : FuncData} (F : Fun K "_law_draw" "_law_draw" s_draw f fd) (z_int : mg "int" = none) (z_len : mg "len" = none) (z_abs : mg "abs" = none) : FnOk P w K mg base CX0 1 f fd ["_law_pen_here", "_law_many"] sp_draw := by
  refine F.ok sc_draw (fun vs H Q E h => ?_) (fun cdv A outer s H vs Q E hr h => ?_)
  · obtain ⟨p, L, n, m, rfl, _⟩ := h
    rfl
  · obtain ⟨p, L, n, m, rfl, ⟨ns, a, l, hp, hL, hz, a0, an, l0⟩, hn, m0, m1, q⟩ := h
    refine ⟨_, (pss_cons (ps_if (pt_cmpR op_gt (pe_ix ix_list (pv 0) pe_int (fun _ _ => rfl)) pe_int (nomark _))
 (pss_cons (ps_set (i := 2) sc_draw.nd rfl (Or.inl rfl) (pe_op op_mod (pe_callTy call_int1 (by rfl) z_int (by decide +kernel) (pa_cons (pe_ix ix_list (pv 0) pe_int (fun _ _ => rfl)) pa_nil)) (pv 1)))
 (pss_cons (ps_asg (pe_op op_fdivW (pe_ix ix_list (pv 0) pe_int (fun _ _ => rfl)) (pv 1)) (pg_sub (pv 0) pe_int set_list))
 (pss_one (ps_ret (pv 2)))))
 pss_nil)
 (pss_cons (ps_set (i := 3) sc_draw.nd rfl (Or.inl rfl) (pe_ix ix_list (pv 0) pe_int (fun _ _ => rfl)))
 (pss_cons (ps_asg (pe_op op_add (pv 3) pe_int) (pg_sub (pv 0) pe_int set_list))
 (pss_cons (ps_set (i := 4) sc_draw.nd rfl (Or.inl rfl) (pe_op op_add (pe_op op_mul pe_int (pv 3)) pe_int))
 (pss_cons (ps_if (pt_cmpR (op_neD hr.units) (pe_ix ix_list (pv 0) pe_int (fun _ _ => rfl)) (pe_lst pa_nil) (nomark _))
 (pss_one (ps_set (i := 4) sc_draw.nd rfl (Or.inl rfl) (pe_ix ix_list (pe_ix ix_list (pv 0) pe_int (fun _ _ => rfl)) (pe_op op_mod (pe_callTy call_int1 (by rfl) z_int (by decide +kernel) (pa_cons (pv 3) pa_nil)) (pe_callB call_len_seq (by rfl) z_len PySem.boot_len (pa_cons (pe_ix ix_list (pv 0) pe_int (fun _ _ => rfl)) pa_nil))) (fun _ _ => rfl))))
 pss_nil)
 (pss_cons (ps_if (PW.pt (pw_and (pt_cmpR op_lt (pv 3) (pe_callB call_len_seq (by rfl) z_len PySem.boot_len (pa_cons (pe_ix ix_list (pv 0) pe_int (fun _ _ => rfl)) pa_nil)) (nomark _)) (pw_and1 (pt_cmpR op_ge (pe_callB call_abs (by rfl) z_abs (by decide +kernel) (pa_cons (pv 4) pa_nil)) (pe_op op_pow pe_int pe_int) (nomark _)))))
 (pss_cons (ps_set (i := 5) sc_draw.nd rfl (Or.inl rfl) (pe_op op_add (pe_op op_mul pe_int (pe_callB call_abs (by rfl) z_abs (by decide +kernel) (pa_cons (pv 4) pa_nil))) (pe_callTy call_int1 (by rfl) z_int (by decide +kernel) (pa_cons (pe_cmpR op_lt (pv 4) pe_int (nomark _)) pa_nil))))
 (pss_cons (ps_asg (pe_op op_fdivW (pv 5) (pv 1)) (pg_sub (pv 0) pe_int set_list))
 (pss_one (ps_ret (pe_op op_mod (pe_callTy call_int1 (by rfl) z_int (by decide +kernel) (pa_cons (pv 5) pa_nil)) (pv 1))))))
 pss_nil)
 (pss_cons (ps_set (i := 6) sc_draw.nd rfl (Or.inl rfl) (pe_op op_mod (pe_op op_pow (pe_callTy call_int1 (by rfl) z_int (by decide +kernel) (pa_cons (pe_op op_add (pe_op op_add (pe_op op_mod (pe_callTy call_int1 (by rfl) z_int (by decide +kernel) (pa_cons (pv 4) pa_nil)) pe_int) (pe_op op_mul pe_int (pv 3))) pe_int) pa_nil)) pe_int) pe_int))
 (pss_cons (ps_set (i := 6) sc_draw.nd rfl (Or.inl rfl) (pe_op op_mod (pe_op op_pow (pe_callTy call_int1 (by rfl) z_int (by decide +kernel) (pa_cons (pe_op op_add (pe_op op_add (pe_op op_mul (pv 6) (pe_op op_add (pe_op op_mul pe_int (pv 3)) pe_int)) (pe_op op_mul (pe_op op_mul pe_int (pv 3)) (pv 3))) pe_int) pa_nil)) pe_int) pe_int))
 (pss_one (ps_ret (pe_op op_mod (pe_callTy call_int1 (by rfl) z_int (by decide +kernel) (pa_cons (pe_op op_fdivW (pv 6) pe_int) pa_nil)) (pv 1)))))))))))), ?_⟩
    have wd : ∀ i : Int, CDivW i m := fun i => wide_div (b := 64) m0 (by omega) (by decide) (by decide)
    walk_at "rd"
    refine ite_d (fun h => ?_) (fun h => ?_)
    · walk_at "rd"
      refine i_rI (wd _) ?_
      walk_at "rd"
      refine i_setL hp (j := 2) rfl ?_
      walk_at "rd"
      obtain ⟨k, pe⟩ := pen_set (a' := a) (l' := l / m) (n := n + 1) hp hL hz a0 (by omega) (Int.ediv_nonneg l0 (by omega))
      exact q _ _ (Int.emod_nonneg _ (by omega)) (Int.emod_lt_of_pos _ m0) k pe
    · walk_at "rd"
      refine i_setL hp (j := 1) rfl ?_
      obtain ⟨H1, e1, k1, hp1, hL1⟩ := pen_put (a' := a + 1) (l' := l) hp hL
      rw [show ([V.ref L, .int a, .int l].set 1 (.int (a + 1))) = [.ref L, .int (a + 1), .int l] from rfl, e1]
      walk_at "rd"
      refine ⟨Nat.zero_le _, fun r hr => ?_⟩
      obtain ⟨H2, e2, s2, h2⟩ := new_heap (o := .lst []) hr
      rw [e2]
      have hp2 := s2 _ _ hp1
      have hL2 := s2 _ _ hL1
      have k2 : Keep H H2 := k1.trans (Same.keep s2)
      refine ⟨.list (ns.map PyData.int), .list (([] : List Int).map PyData.int), .lst (SqL.of hL2) (dps_ints ns), .lst (SqL.of h2) .nil, shaped_ints ns, shaped_ints [], ?_⟩
      rw [show PyData.eqv (.list (ns.map PyData.int)) (.list (([] : List Int).map PyData.int)) = decide (ns = []) from eqv_ints ns []]
      -- the end of the draw, from the cell on
      have fin : ∀ (l' d : Int), 0 ≤ l' → 0 ≤ d → d < m → Q (.int d) (upd H2 p (.lst [.ref L, .int (a + 1), .int l'])) := fun l' d hl' hd0 hd1 => by
        obtain ⟨k, pe⟩ := pen_set (a' := a + 1) (l' := l') (n := n + 1) hp2 hL2 hz (by omega) (by omega) hl'
        exact q _ _ hd0 hd1 (k2.trans k) pe
      have same : upd H2 p (.lst [.ref L, .int (a + 1), .int l]) = H2 := by
        funext b
        unfold upd
        split
        · rename_i e
          rw [e, hp2]
        · rfl
      have fin0 : ∀ d : Int, 0 ≤ d → d < m → Q (.int d) H2 := fun d h0 h1 => by
        rw [← same]
        exact fin l d l0 h0 h1
      walk_at "rd"
      refine ite_nd (fun hne => ?_) (fun he => ?_)
      · walk_at "rd"
        have hpos : (0 : Int) < ((ns.map V.int).length : Int) := by
          cases ns with
          | nil => exact absurd rfl hne
          | cons x xs => simp
        refine i_rI hpos ?_
        have hlen : ((ns.map V.int).length : Int) = (ns.length : Int) := by rw [List.length_map]
        rw [hlen] at hpos ⊢
        have i0 := Int.emod_nonneg a (b := (ns.length : Int)) (by omega)
        have i1 := Int.emod_lt_of_pos a hpos
        obtain ⟨j, hj⟩ : ∃ j : Nat, a % (ns.length : Int) = (j : Int) := ⟨(a % (ns.length : Int)).toNat, by omega⟩
        rw [hj]
        have hjl : j < ns.length := by omega
        refine i_ixL hL2 (atI_nat (by rw [List.getElem?_map, List.getElem?_eq_getElem hjl]; rfl)) ?_
        generalize ns[j] = c
        walk_at "rd"
        have c0 := Int.emod_nonneg c (b := 2147483549) (by decide)
        have c1 := Int.emod_lt_of_pos c (b := 2147483549) (by decide)
        refine ite_d (fun h1 => ?_) (fun h1 => ?_)
        · walk_at "rd"
          refine ite_d (fun h2 => ?_) (fun h2 => ?_)
          · walk_at "rd"
            refine i_rI (wd _) ?_
            walk_at "rd"
            refine i_setL hp2 (j := 2) rfl ?_
            walk_at "rd"
            refine fin _ _ (Int.ediv_nonneg ?_ (by omega)) (Int.emod_nonneg _ (by omega)) (Int.emod_lt_of_pos _ m0)
            split <;> split <;> omega
          · walk_at "rd"
            refine i_rI ⟨by decide, by decide, by omega⟩ ?_
            walk_at "rd"
            generalize hx : (c % 2147483549 + 57331 * a + 28) ^ (5 : Int).toNat % 2147483579 = x
            have x0 : 0 ≤ x := by rw [← hx]; exact Int.emod_nonneg _ (by decide)
            have x1 : x < 2147483579 := by rw [← hx]; exact Int.emod_lt_of_pos _ (by decide)
            refine i_rI (.inl ⟨by omega, by omega⟩) ?_
            walk_at "rd"
            refine i_rI (.inl ⟨by omega, by omega⟩) ?_
            walk_at "rd"
            have b1 := mul_bd x0 (Int.le_of_lt x1) (b := 2 * a + 45) (B := 20100) (by omega) (by omega)
            have b2 := mul_bd (a := 70001 * a) (A := 70001 * 10001) (by omega) (by omega) a0 (B := 10001) (by omega)
            refine i_rI ⟨by decide, by decide, by omega⟩ ?_
            walk_at "rd"
            refine i_rI (wide_div (b := 8) (by decide) (by decide) (by decide) (by decide)) ?_
            walk_at "rd"
            exact fin0 _ (Int.emod_nonneg _ (by omega)) (Int.emod_lt_of_pos _ m0)
        · refine iteF ?_
          walk_at "rd"
          refine i_rI ⟨by decide, by decide, by omega⟩ ?_
          walk_at "rd"
          generalize hx : (c % 2147483549 + 57331 * a + 28) ^ (5 : Int).toNat % 2147483579 = x
          have x0 : 0 ≤ x := by rw [← hx]; exact Int.emod_nonneg _ (by decide)
          have x1 : x < 2147483579 := by rw [← hx]; exact Int.emod_lt_of_pos _ (by decide)
          refine i_rI (.inl ⟨by omega, by omega⟩) ?_
          walk_at "rd"
          refine i_rI (.inl ⟨by omega, by omega⟩) ?_
          walk_at "rd"
          have b1 := mul_bd x0 (Int.le_of_lt x1) (b := 2 * a + 45) (B := 20100) (by omega) (by omega)
          have b2 := mul_bd (a := 70001 * a) (A := 70001 * 10001) (by omega) (by omega) a0 (B := 10001) (by omega)
          refine i_rI ⟨by decide, by decide, by omega⟩ ?_
          walk_at "rd"
          refine i_rI (wide_div (b := 8) (by decide) (by decide) (by decide) (by decide)) ?_
          walk_at "rd"
          exact fin0 _ (Int.emod_nonneg _ (by omega)) (Int.emod_lt_of_pos _ m0)
      · subst he
        walk_at "rd"
        generalize 47137 * a + 14 = c
        have c0 := Int.emod_nonneg c (b := 2147483549) (by decide)
        have c1 := Int.emod_lt_of_pos c (b := 2147483549) (by decide)
        refine ite_d (fun h1 => ?_) (fun h1 => ?_)
        · walk_at "rd"
          refine ite_d (fun h2 => ?_) (fun h2 => ?_)
          · walk_at "rd"
            refine i_rI (wd _) ?_
            walk_at "rd"
            refine i_setL hp2 (j := 2) rfl ?_
            walk_at "rd"
            refine fin _ _ (Int.ediv_nonneg ?_ (by omega)) (Int.emod_nonneg _ (by omega)) (Int.emod_lt_of_pos _ m0)
            split <;> split <;> omega
          · walk_at "rd"
            refine i_rI ⟨by decide, by decide, by omega⟩ ?_
            walk_at "rd"
            generalize hx : (c % 2147483549 + 57331 * a + 28) ^ (5 : Int).toNat % 2147483579 = x
            have x0 : 0 ≤ x := by rw [← hx]; exact Int.emod_nonneg _ (by decide)
            have x1 : x < 2147483579 := by rw [← hx]; exact Int.emod_lt_of_pos _ (by decide)
            refine i_rI (.inl ⟨by omega, by omega⟩) ?_
            walk_at "rd"
            refine i_rI (.inl ⟨by omega, by omega⟩) ?_
            walk_at "rd"
            have b1 := mul_bd x0 (Int.le_of_lt x1) (b := 2 * a + 45) (B := 20100) (by omega) (by omega)
            have b2 := mul_bd (a := 70001 * a) (A := 70001 * 10001) (by omega) (by omega) a0 (B := 10001) (by omega)
            refine i_rI ⟨by decide, by decide, by omega⟩ ?_
            walk_at "rd"
            refine i_rI (wide_div (b := 8) (by decide) (by decide) (by decide) (by decide)) ?_
            walk_at "rd"
            exact fin0 _ (Int.emod_nonneg _ (by omega)) (Int.emod_lt_of_pos _ m0)
        · refine iteF ?_
          walk_at "rd"
          refine i_rI ⟨by decide, by decide, by omega⟩ ?_
          walk_at "rd"
          generalize hx : (c % 2147483549 + 57331 * a + 28) ^ (5 : Int).toNat % 2147483579 = x
          have x0 : 0 ≤ x := by rw [← hx]; exact Int.emod_nonneg _ (by decide)
          have x1 : x < 2147483579 := by rw [← hx]; exact Int.emod_lt_of_pos _ (by decide)
          refine i_rI (.inl ⟨by omega, by omega⟩) ?_
          walk_at "rd"
          refine i_rI (.inl ⟨by omega, by omega⟩) ?_
          walk_at "rd"
          have b1 := mul_bd x0 (Int.le_of_lt x1) (b := 2 * a + 45) (B := 20100) (by omega) (by omega)
          have b2 := mul_bd (a := 70001 * a) (A := 70001 * 10001) (by omega) (by omega) a0 (B := 10001) (by omega)
          refine i_rI ⟨by decide, by decide, by omega⟩ ?_
          walk_at "rd"
          refine i_rI (wide_div (b := 8) (by decide) (by decide) (by decide) (by decide)) ?_
          walk_at "rd"
          exact fin0 _ (Int.emod_nonneg _ (by omega)) (Int.emod_lt_of_pos _ m0)
end
end Spk

set_option Elab.async false
set_option linter.all false
set_option maxRecDepth 100000
set_option maxHeartbeats 1000000
namespace Spk
open PySem L2
local macro_rules | `(tactic| walk_at "rd") => `(tactic| repeat (first
  | with_reducible refine i_seq ?_ | with_reducible refine i_asg ?_ | with_reducible refine i_ret ?_ | with_reducible refine i_ifS ?_ | with_reducible refine i_if ?_
  | with_reducible refine i_for ?_ | with_reducible refine i_iL ?_ | with_reducible refine i_iT ?_ | with_reducible refine i_ckw ?_ | with_reducible refine i_cm ?_ | with_reducible refine And.intro (rfl : V.ref _ = V.ref _) ?_ | with_reducible refine i_rng1 ?_ | with_reducible refine i_bm ?_ | with_reducible refine i_bm0 ?_
  | with_reducible refine i_drop ?_ | with_reducible refine i_next ?_
  | with_reducible refine i_var rfl ?_ | with_reducible refine i_c ?_ | with_reducible refine i_op ?_ | with_reducible refine i_un ?_ | with_reducible refine i_name ?_
  | with_reducible refine i_rI0 ?_ | with_reducible refine i_rU ?_ | with_reducible refine i_rEq rfl ?_ | with_reducible refine i_rNe rfl ?_
  | with_reducible refine i_test ?_ | with_reducible refine i_tB ?_ | with_reducible refine i_and ?_ | with_reducible refine i_or ?_ | with_reducible refine i_not ?_
  | with_reducible refine i_andV ?_ | with_reducible refine i_orV ?_ | with_reducible refine i_notV ?_
  | with_reducible refine i_cons ?_ | with_reducible refine i_nil ?_ | with_reducible refine i_cb ?_ | with_reducible refine i_call ?_ | with_reducible refine i_bl ?_
  | with_reducible refine i_tup ?_ | with_reducible refine i_lst ?_ | with_reducible refine i_par ?_ | with_reducible refine i_gcons ?_ | with_reducible refine i_gnil ?_
  | with_reducible refine And.intro (rfl : V.non = V.non) ?_ | with_reducible refine i_ixT (by assumption) rfl ?_ | with_reducible refine i_ixL (by assumption) rfl ?_ | with_reducible refine i_gtup (by assumption) rfl ?_
  | with_reducible refine i_gsub ?_
  | with_reducible refine Or.inl (Exists.intro _ (And.intro (rfl : [V.int _] = [V.int _]) ?_)) | with_reducible refine Exists.intro _ (And.intro (rfl : [V.int _] = [V.int _]) ?_)
  | with_reducible refine Or.inr (Exists.intro _ (And.intro (rfl : [V.bl _] = [V.bl _]) ?_))
  | with_reducible refine Exists.intro _ (Exists.intro _ (And.intro (rfl : [V.int _, V.int _] = [V.int _, V.int _]) ?_))
  | with_reducible refine Exists.intro _ (Exists.intro _ (And.intro (rfl : [V.ref _] = [V.ref _]) (And.intro (Or.inl (SqL.of (by assumption))) ?_)))
  | with_reducible refine i_rI (show (0 : Int) < _ by assumption) ?_ | with_reducible refine i_rI (show (0 : Int) < _ by decide) ?_
  | with_reducible refine i_rI (pow_ok (Nat.le_of_ble_eq_true rfl) (Nat.le_of_ble_eq_true rfl)) ?_
  | with_reducible refine i_rI (cmulL rfl) ?_))
section
variable {P : Program} {w : World} {K : PySem.W.Frag} {mg : Str → Option Value} {base : Heap}
theorem TupS.keep {H H' : Hp} {v : V} {s : Stc} (e : Keep H H') (h : TupS H v s) : TupS H' v s := by
  obtain ⟨a, rfl, h⟩ := h
  exact ⟨a, rfl, e _ _ rfl h⟩
theorem Tups.keep {H H' : Hp} {vs : List V} {ss : List Stc} (e : Keep H H') (h : Tups H vs ss) : Tups H' vs ss := Paired.mapP h fun _ _ z => z.keep e
theorem PartsT.keep {H H' : Hp} {t : Addr} {ps : List Stc} (e : Keep H H') (h : PartsT H t ps) : PartsT H' t ps := by
  obtain ⟨vs, h, z⟩ := h
  exact ⟨vs, e _ _ rfl h, z.keep e⟩
theorem Rng.keep {C : Addr} {H H' : Hp} {r : Addr} {ps : List Stc} (e : Keep H H') (h : Rng C H r ps) : Rng C H' r ps := by
  obtain ⟨dx, t, a, b, c⟩ := h
  exact ⟨dx, t, e _ _ rfl a, b.keep e, c⟩
theorem penny_tups {H : Hp} {vs : List V} {ss : List Stc} (h : Tups H vs ss) : penny (.lst vs) = false := by
  cases h with
  | nil => rfl
  | cons r t =>
    obtain ⟨a, rfl, _⟩ := r
    cases t with
    | nil => rfl
    | cons r t =>
      obtain ⟨b, rfl, _⟩ := r
      cases t <;> rfl
/-- a list of stretches -/
def StrL (H : Hp) (l : Addr) (ss : List Stc) : Prop := ∃ vs, H l = some (.lst vs) ∧ Tups H vs ss
theorem StrL.up {H H' : Hp} {l : Addr} {ss : List Stc} (e : Same H H') (h : StrL H l ss) : StrL H' l ss := by
  obtain ⟨vs, h, z⟩ := h
  exact ⟨vs, e _ _ h, z.up e⟩
theorem StrL.keep {H H' : Hp} {l : Addr} {ss : List Stc} (e : Keep H H') (h : StrL H l ss) : StrL H' l ss := by
  obtain ⟨vs, h, z⟩ := h
  exact ⟨vs, e _ _ (penny_tups z) h, z.keep e⟩
theorem dp_strL {H : Hp} {l : Addr} {ss : List Stc} (h : StrL H l ss) : Dp K H (.ref l) (.list (ss.map stD)) := by
  obtain ⟨vs, h, tu⟩ := h
  exact .lst (SqL.of h) (dps_tups tu)
theorem shaped_strL (ss : List Stc) : SeqAt.shaped (.list (ss.map stD)) = true := by
  have h1 := lay_ps ss
  have h2 := dep_ps ss
  have h3 : (PyData.list (ss.map stD)).depth ≤ 3 := by
    simp only [PyData.depth]
    omega
  unfold SeqAt.shaped
  rw [Bool.and_eq_true, decide_eq_true_eq]
  exact ⟨by simpa only [PyData.canLay0] using h1, by omega⟩
theorem eqv_strL (ss ts : List Stc) : PyData.eqv (.list (ss.map stD)) (.list (ts.map stD)) = decide (ss = ts) := eqvAll_ps ss ts
abbrev s_end : Stmt := top 15
theorem sc_end : FnScope ["_law_pen_here", "_law_pick"] ["_law_pen_here"] (defScope s_end) := ⟨rfl, rfl, rfl, by decide +kernel, rfl, by decide +kernel, by decide +kernel⟩
/-- the ends lie within twelve digits -/
def Bd1 (s : Stc) : Prop := (∀ k, s.1 = some k → -1000000000000 ≤ k ∧ k ≤ 1000000000000) ∧ (∀ k, s.2 = some k → -1000000000000 ≤ k ∧ k ≤ 1000000000000)
def sp_end : Sp := fun vs H Q _ => ∃ p L n, vs = [.ref p] ∧ Pen H p L n ∧ n ≤ 9990 ∧ ∀ e H', -1000000000000 ≤ e → e ≤ 1000000000000 → Keep H H' → Pen H' p L (n + 3) → Q (.int e) H'
theorem ok_end {f fD : Addr} {fd fdD : FuncData} (F : Fun K "_law_end" "_law_end" s_end f fd) (F_draw : Fun K "_law_draw" "_law_draw" s_draw fD fdD) (B_draw : Binds K fdD ["_law_pen_here", "_law_many"] []) (g_draw : mg "_law_draw" = some (.ref fD))
    (G_draw : FnOk P w K mg base CX0 1 fD fdD ["_law_pen_here", "_law_many"] sp_draw) : FnOk P w K mg base CX0 2 f fd ["_law_pen_here"] sp_end := by
  refine F.ok sc_end (fun vs H Q E h => ?_) (fun cdv A outer s H vs Q E hr h => ?_)
  · obtain ⟨p, L, n, rfl, _⟩ := h
    rfl
  · obtain ⟨p, L, n, rfl, hp, hn, q⟩ := h
    have p12 : (10 : Int) ^ (12 : Int).toNat = 1000000000000 := rfl
    have p11 : (10 : Int) ^ (11 : Int).toNat = 100000000000 := rfl
    refine ⟨_, (pss_cons (ps_set (i := 1) sc_end.nd rfl (Or.inl rfl) (pe_call G_draw (hr.mono (by decide)) rfl g_draw F_draw.kp B_draw .nil pass0 (pa_cons (pv 0) (pa_cons pe_int pa_nil))))
 (pss_cons (ps_if (pt_cmpR op_lt (pv 1) pe_int (nomark _))
 (pss_one (ps_ret (pe_op op_sub (pe_call G_draw (hr.mono (by decide)) rfl g_draw F_draw.kp B_draw .nil pass0 (pa_cons (pv 0) (pa_cons pe_int pa_nil))) pe_int)))
 pss_nil)
 (pss_cons (ps_if (pt_cmpR op_eq (pv 1) pe_int (nomark _))
 (pss_one (ps_ret (pe_op op_sub (pe_call G_draw (hr.mono (by decide)) rfl g_draw F_draw.kp B_draw .nil pass0 (pa_cons (pv 0) (pa_cons pe_int pa_nil))) pe_int)))
 pss_nil)
 (pss_cons (ps_if (pt_cmpR op_eq (pv 1) pe_int (nomark _))
 (pss_one (ps_ret (pe_op op_mul (pe_op op_sub (pe_op op_sub (pe_op op_pow pe_int pe_int) pe_int) (pe_call G_draw (hr.mono (by decide)) rfl g_draw F_draw.kp B_draw .nil pass0 (pa_cons (pv 0) (pa_cons pe_int pa_nil)))) (pe_op op_sub pe_int (pe_op op_mul pe_int (pe_call G_draw (hr.mono (by decide)) rfl g_draw F_draw.kp B_draw .nil pass0 (pa_cons (pv 0) (pa_cons pe_int pa_nil))))))))
 pss_nil)
 (pss_one (ps_ret (pe_op op_mul (pe_call G_draw (hr.mono (by decide)) rfl g_draw F_draw.kp B_draw .nil pass0 (pa_cons (pv 0) (pa_cons (pe_op op_pow pe_int pe_int) pa_nil))) (pe_op op_sub pe_int (pe_op op_mul pe_int (pe_call G_draw (hr.mono (by decide)) rfl g_draw F_draw.kp B_draw .nil pass0 (pa_cons (pv 0) (pa_cons pe_int pa_nil)))))))))))), ?_⟩
    walk_at "rd"
    refine ⟨p, L, n, 6, rfl, hp, by omega, by decide, by decide, fun k H1 k0 k6 e1 p1 => ?_⟩
    walk_at "rd"
    refine ite_d (fun h => ?_) (fun h => ?_)
    · walk_at "rd"
      refine ⟨p, L, _, 15, rfl, p1, by omega, by decide, by decide, fun d H2 d0 d1 e2 p2 => ?_⟩
      walk_at "rd"
      exact q _ H2 (by omega) (by omega) (e1.trans e2) (p2.mono (by omega))
    · walk_at "rd"
      refine ite_d (fun h => ?_) (fun h => ?_)
      · walk_at "rd"
        refine ⟨p, L, _, 201, rfl, p1, by omega, by decide, by decide, fun d H2 d0 d1 e2 p2 => ?_⟩
        walk_at "rd"
        exact q _ H2 (by omega) (by omega) (e1.trans e2) (p2.mono (by omega))
      · walk_at "rd"
        refine ite_d (fun h => ?_) (fun h => ?_)
        · walk_at "rd"
          refine ⟨p, L, _, 4, rfl, p1, by omega, by decide, by decide, fun d H2 d0 d1 e2 p2 => ?_⟩
          walk_at "rd"
          refine ⟨p, L, _, 2, rfl, p2, by omega, by decide, by decide, fun e H3 f0 f1 e3 p3 => ?_⟩
          walk_at "rd"
          refine i_rI (.inr ⟨by omega, by omega⟩) ?_
          obtain rfl | rfl : e = 0 ∨ e = 1 := by omega
          · exact q _ H3 (by omega) (by omega) ((e1.trans e2).trans e3) p3
          · exact q _ H3 (by omega) (by omega) ((e1.trans e2).trans e3) p3
        · walk_at "rd"
          refine ⟨p, L, _, _, rfl, p1, by omega, by decide, by decide, fun d H2 d0 d1 e2 p2 => ?_⟩
          walk_at "rd"
          refine ⟨p, L, _, 2, rfl, p2, by omega, by decide, by decide, fun e H3 f0 f1 e3 p3 => ?_⟩
          walk_at "rd"
          refine i_rI (.inr ⟨by omega, by omega⟩) ?_
          obtain rfl | rfl : e = 0 ∨ e = 1 := by omega
          · exact q _ H3 (by omega) (by omega) ((e1.trans e2).trans e3) p3
          · exact q _ H3 (by omega) (by omega) ((e1.trans e2).trans e3) p3

abbrev s_stretches : Stmt := top 16
theorem sc_stretches : FnScope ["_law_pen_here", "_law_most", "_law_found", "_law_turn", "_law_low", "_law_pick", "_law_high", "_law_ends"] ["_law_pen_here", "_law_most"] (defScope s_stretches) := ⟨rfl, rfl, rfl, by decide +kernel, rfl, by decide +kernel, by decide +kernel⟩
def sp_stretches : Sp := fun vs H Q _ => ∃ p L n m, vs = [.ref p, .int m] ∧ Pen H p L n ∧ n ≤ 9000 ∧ 0 ≤ m ∧ m ≤ 6 ∧
  ∀ l H' ss, H l = none → Keep H H' → Pen H' p L (n + 60) → StrL H' l ss → (∀ s, s ∈ ss → NE s) → (∀ s, s ∈ ss → Bd1 s) → ss.length ≤ 6 → Q (.ref l) H'
structure TInv (H0 : Hp) (p L d : Addr) (m : Int) (n : Nat) (i : Nat) (σ : L2.St) (H : Hp) : Prop where
  ex : ∃ (ss : List Stc) (x3 x4 x5 x6 x7 : Option V), σ = [some (.ref p), some (.int m), some (.ref d), x3, x4, x5, x6, x7] ∧ Keep H0 H ∧ Pen H p L (n + 1 + 8 * i) ∧ StrL H d ss ∧ (∀ s, s ∈ ss → NE s ∧ Bd1 s) ∧ ss.length ≤ i
theorem at6 {d e : Int} {k : Int} (h0 : 0 ≤ k) (h1 : k < 6) (hd : 0 ≤ d) (he : 0 ≤ e) : ∃ v : Int, 0 ≤ v ∧ atI [V.int 0, V.int 0, V.int 1, V.int 2, V.int d, V.int e] k = some (.int v) := by
  obtain rfl | rfl | rfl | rfl | rfl | rfl : k = 0 ∨ k = 1 ∨ k = 2 ∨ k = 3 ∨ k = 4 ∨ k = 5 := by omega
  · exact ⟨0, by decide, rfl⟩
  · exact ⟨0, by decide, rfl⟩
  · exact ⟨1, by decide, rfl⟩
  · exact ⟨2, by decide, rfl⟩
  · exact ⟨d, hd, rfl⟩
  · exact ⟨e, he, rfl⟩
theorem Keep.mut {H0 H : Hp} {d : Addr} {o : HO} (e : Keep H0 H) (h : H0 d = none) : Keep H0 (upd H d o) := fun b u hu hb => by
  rw [upd_ne (ne_of_none hb h)]
  exact e b u hu hb
/-- a list of ours is changed -/
theorem Pen.mut {H : Hp} {p L d : Addr} {n : Nat} {vs ws : List V} {ss : List Stc} (h : Pen H p L n) (hd : H d = some (.lst vs)) (hv : Tups H vs ss) (hne : L ≠ d) : Pen (upd H d (.lst ws)) p L n := by
  obtain ⟨ns, a, l, h1, h2, r⟩ := h
  have hp : p ≠ d := fun z => by
    subst z
    rw [h1] at hd
    cases hd
    have := penny_tups hv
    simp [penny] at this
  exact ⟨ns, a, l, by rw [upd_ne hp]; exact h1, by rw [upd_ne hne]; exact h2, r⟩
theorem Pen.ne {H : Hp} {p L d : Addr} {n : Nat} (h : Pen H p L n) (hd : H d = none) : L ≠ d := by
  obtain ⟨ns, a, l, h1, h2, r⟩ := h
  exact ne_of_none h2 hd
theorem ok_stretches {f fD fE : Addr} {fd fdD fdE : FuncData} (F : Fun K "_law_stretches" "_law_stretches" s_stretches f fd) (F_draw : Fun K "_law_draw" "_law_draw" s_draw fD fdD) (B_draw : Binds K fdD ["_law_pen_here", "_law_many"] []) (g_draw : mg "_law_draw" = some (.ref fD))
    (G_draw : FnOk P w K mg base CX0 1 fD fdD ["_law_pen_here", "_law_many"] sp_draw) (F_end : Fun K "_law_end" "_law_end" s_end fE fdE) (B_end : Binds K fdE ["_law_pen_here"] []) (g_end : mg "_law_end" = some (.ref fE))
    (G_end : FnOk P w K mg base CX0 2 fE fdE ["_law_pen_here"] sp_end) (z_range : mg "range" = none) (z_int : mg "int" = none) (z_min : mg "min" = none) : FnOk P w K mg base CX0 3 f fd ["_law_pen_here", "_law_most"] sp_stretches := by
  refine F.ok sc_stretches (fun vs H Q E h => ?_) (fun cdv A outer s H vs Q E hr h => ?_)
  · obtain ⟨p, L, n, m, rfl, _⟩ := h
    rfl
  · obtain ⟨p, L, n, m, rfl, hp, hn, m0, m6, q⟩ := h
    refine ⟨_, (pss_cons (ps_set (i := 2) sc_stretches.nd rfl (Or.inl rfl) (pe_lst pa_nil))
 (pss_cons (ps_for PassesOwn.never rfl (pi_range1 (by rfl) z_range (pa_cons (pe_call G_draw (hr.mono (by decide)) rfl g_draw F_draw.kp B_draw .nil pass0 (pa_cons (pv 0) (pa_cons (pe_op op_add (pv 1) pe_int) pa_nil))) pa_nil)) (pg_name (i := 3) sc_stretches.nd rfl (Or.inl rfl))
 (pss_cons (ps_set (i := 4) sc_stretches.nd rfl (Or.inl rfl) (pe_call G_end (hr.mono (by decide)) rfl g_end F_end.kp B_end .nil pass0 (pa_cons (pv 0) pa_nil)))
 (pss_cons (ps_set (i := 5) sc_stretches.nd rfl (Or.inl rfl) (pe_call G_draw (hr.mono (by decide)) rfl g_draw F_draw.kp B_draw .nil pass0 (pa_cons (pv 0) (pa_cons pe_int pa_nil))))
 (C8.pss_cut (ps_if (PW.pt (pw_and (pt_cmpR (op_neD hr.units) (pv 2) (pe_lst pa_nil) (nomark _)) (pw_and1 (pt_cmpR op_lt (pv 5) pe_int (nomark _)))))
 (pss_cons (ps_set (i := 4) sc_stretches.nd rfl (Or.inl rfl) (pe_ix ix_tup (pe_ix ix_list (pv 2) (pe_un un_neg pe_int) (fun _ _ => rfl)) (pe_op op_fdivW (pv 5) pe_int) (fun _ _ => rfl)))
 (pss_one (ps_set (i := 4) sc_stretches.nd rfl (Or.inl rfl) (pe_op op_add (pe_op op_add (pe_ifExp (pt_cmpR op_isN (pv 4) pe_non (nomark _)) pe_int (pv 4)) pe_int) (pe_op op_mod (pe_callTy call_int1 (by rfl) z_int (by decide +kernel) (pa_cons (pv 5) pa_nil)) pe_int)))))
 pss_nil)
 (pss_cons (ps_set (i := 6) sc_stretches.nd rfl (Or.inl rfl) (pe_op op_add (pv 4) (pe_ix ix_list (pe_lst (pa_cons pe_int (pa_cons pe_int (pa_cons pe_int (pa_cons pe_int (pa_cons (pe_call G_draw (hr.mono (by decide)) rfl g_draw F_draw.kp B_draw .nil pass0 (pa_cons (pv 0) (pa_cons pe_int pa_nil))) (pa_cons (pe_call G_draw (hr.mono (by decide)) rfl g_draw F_draw.kp B_draw .nil pass0 (pa_cons (pv 0) (pa_cons pe_int pa_nil))) pa_nil))))))) (pe_call G_draw (hr.mono (by decide)) rfl g_draw F_draw.kp B_draw .nil pass0 (pa_cons (pv 0) (pa_cons pe_int pa_nil))) (fun _ _ => rfl))))
 (pss_cons (ps_set (i := 6) sc_stretches.nd rfl (Or.inl rfl) (pe_callB (call_min2 rfl) (by rfl) z_min (by decide +kernel) (pa_cons (pv 6) (pa_cons (pe_op op_sub (pe_op op_pow pe_int pe_int) pe_int) pa_nil))))
 (pss_cons (ps_set (i := 7) sc_stretches.nd rfl (Or.inl rfl) (pe_tup (pa_cons (pe_callB (call_min2 rfl) (by rfl) z_min (by decide +kernel) (pa_cons (pv 4) (pa_cons (pv 6) pa_nil))) (pa_cons (pv 6) pa_nil))))
 (pss_cons (ps_set (i := 5) sc_stretches.nd rfl (Or.inl rfl) (pe_call G_draw (hr.mono (by decide)) rfl g_draw F_draw.kp B_draw .nil pass0 (pa_cons (pv 0) (pa_cons pe_int pa_nil))))
 (C8.pss_cut (ps_if (pt_cmpR op_eq (pv 5) pe_int (nomark _))
 (pss_one (ps_set (i := 7) sc_stretches.nd rfl (Or.inl rfl) (pe_tup (pa_cons pe_non (pa_cons (pv 6) pa_nil)))))
 pss_nil)
 (C8.pss_cut (ps_if (pt_cmpR op_eq (pv 5) pe_int (nomark _))
 (pss_one (ps_set (i := 7) sc_stretches.nd rfl (Or.inl rfl) (pe_tup (pa_cons (pe_callB (call_min2 rfl) (by rfl) z_min (by decide +kernel) (pa_cons (pv 4) (pa_cons (pv 6) pa_nil))) (pa_cons pe_non pa_nil)))))
 pss_nil)
 (pss_one (ps_expr (pe_bm PySem.F.plainAttrs_list PySem.F.slot_list_append PySem.F.type_list_append mt_append (pv 2) (pa_cons (pv 7) pa_nil))))))))))))))
 (pss_one (ps_ret (pv 2))))), ?_⟩
    walk_at "rd"
    refine ⟨Nat.zero_le _, fun d hd0 => ?_⟩
    obtain ⟨H1, e1, s1, hd⟩ := new_heap (o := .lst []) hd0
    rw [e1]
    have hLd := hp.ne hd0
    walk_at "rd"
    refine ⟨p, L, n, _, rfl, hp.up s1, by omega, by omega, by omega, fun k H2 k0 k1 e2 p2 => ?_⟩
    walk_at "rd"
    refine ⟨by omega, by omega, for_range (lo := 0) (n := k.toNat) (TInv H p L d m n) ⟨[], none, none, none, none, none, rfl, (Same.keep s1).trans e2, p2, ⟨[], e2 _ _ rfl hd, .nil⟩, fun s hs => by simp at hs, Nat.le_refl _⟩ ?_ ?_⟩
    · rintro i σ H3 hi ⟨ss, x3, x4, x5, x6, x7, rfl, k3, p3, sl3, hne, hlen⟩
      walk_at "rd"
      refine ⟨p, L, _, rfl, p3, by omega, fun lo H4 lo0 lo1 e4 p4 => ?_⟩
      walk_at "rd"
      refine ⟨p, L, _, 8, rfl, p4, by omega, by decide, by decide, fun pick H5 c0 c1 e5 p5 => ?_⟩
      walk_at "rd"
      have sl5 := (sl3.keep e4).keep e5
      have k5 := (k3.trans e4).trans e5
      refine ⟨fun σ' H' => ∃ lo' : Int, -1000000000000 ≤ lo' ∧ σ' = [some (.ref p), some (.int m), some (.ref d), some (.int (0 + (i : Int))), some (.int lo'), some (.int pick), x6, x7] ∧ Same H5 H', ?_, ?_⟩
      · walk_at "rd"
        refine ⟨Nat.zero_le _, fun r hr => ?_⟩
        obtain ⟨H6, e6, s6, h6⟩ := new_heap (o := .lst []) hr
        rw [e6]
        refine ⟨.list (ss.map stD), .list (([] : List Stc).map stD), dp_strL (sl5.up s6), dp_strL ⟨[], h6, .nil⟩, shaped_strL ss, shaped_strL [], ?_⟩
        rw [eqv_strL]
        walk_at "rd"
        refine ite_nd (fun he => ?_) (fun he => ?_)
        · walk_at "rd"
          refine ite_d (fun hp4 => ?_) (fun hp4 => ?_)
          · walk_at "rd"
            obtain ⟨vs, hvs, tu⟩ := sl5.up s6
            rcases List.eq_nil_or_concat ss with z | ⟨st, sx, z⟩
            · exact absurd z he
            · rw [z, List.concat_eq_append] at tu
              obtain ⟨vs', v, rfl, _, ⟨c, rfl, hc⟩⟩ := tups_concat tu
              refine i_ixL hvs (atI_last _ _) ?_
              walk_at "rd"
              refine i_rI (wide_div (b := 2) (by decide) (by decide) (by decide) (by decide)) ?_
              have hbx : Bd1 sx := (hne sx (by rw [z, List.concat_eq_append]; simp)).2
              have at2 : ∃ o, (∀ y, o = some y → -1000000000000 ≤ y) ∧ atI [ov sx.1, ov sx.2] (pick / 2) = some (ov o) := by
                obtain e | e : pick / 2 = 0 ∨ pick / 2 = 1 := by omega
                · rw [e]; exact ⟨sx.1, fun y hy => (hbx.1 y hy).1, rfl⟩
                · rw [e]; exact ⟨sx.2, fun y hy => (hbx.2 y hy).1, rfl⟩
              obtain ⟨o, hob, ho⟩ := at2
              refine i_ixT hc ho ?_
              walk_at "rd"
              cases o with
              | none =>
                refine ite_d (fun _ => ?_) (fun h => absurd rfl h)
                walk_at "rd"
                exact ⟨_, by omega, rfl, s6⟩
              | some y =>
                have := hob y rfl
                refine ite_d (fun h => nomatch h) (fun _ => ?_)
                walk_at "rd"
                exact ⟨_, by omega, rfl, s6⟩
          · walk_at "rd"
            exact ⟨_, by omega, rfl, s6⟩
        · refine iteF ?_
          walk_at "rd"
          exact ⟨_, by omega, rfl, s6⟩
      · rintro σ' H6 ⟨lo', lb, rfl, s6⟩
        walk_at "rd"
        refine ⟨p, L, _, 10, rfl, p5.up s6, by omega, by decide, by decide, fun d1 H7 d10 _ e7 p7 => ?_⟩
        walk_at "rd"
        refine ⟨p, L, _, 1000, rfl, p7, by omega, by decide, by decide, fun d2 H8 d20 _ e8 p8 => ?_⟩
        walk_at "rd"
        refine ⟨size_of (Nat.le_of_ble_eq_true rfl), fun r hr => ?_⟩
        obtain ⟨H9, e9, s9, h9⟩ := new_heap (o := .lst [.int 0, .int 0, .int 1, .int 2, .int d1, .int d2]) hr
        rw [e9]
        walk_at "rd"
        refine ⟨p, L, _, 6, rfl, p8.up s9, by omega, by decide, by decide, fun d3 H10 y0 y1 e10 p10 => ?_⟩
        obtain ⟨v, v0, hv⟩ := at6 y0 y1 d10 d20
        refine i_ixL (e10 _ _ rfl h9) hv ?_
        walk_at "rd"
        have k10 : Keep H5 H10 := ((((Same.keep s6).trans e7).trans e8).trans (Same.keep s9)).trans e10
        generalize hh : (if (10 : Int) ^ (12 : Int).toNat - 100 < lo' + v then (10 : Int) ^ (12 : Int).toNat - 100 else lo' + v) = hi
        refine ⟨size_of (Nat.le_of_ble_eq_true rfl), fun r2 hr2 => ?_⟩
        obtain ⟨H11, e11, s11, h11⟩ := new_heap (o := .tup [.int (if hi < lo' then hi else lo'), .int hi]) hr2
        rw [e11]
        walk_at "rd"
        refine ⟨p, L, _, 9, rfl, p10.up s11, by omega, by decide, by decide, fun pk H12 _ _ e12 p12 => ?_⟩
        walk_at "rd"
        have k12 : Keep H5 H12 := (k10.trans (Same.keep s11)).trans e12
        have h12 := e12 _ _ rfl h11
        have hib : -1000000000000 ≤ hi ∧ hi ≤ 1000000000000 := by
          rw [← hh, show (10 : Int) ^ (12 : Int).toNat - 100 = 999999999900 from rfl]
          split <;> omega
        have bdL : Bd1 (some (if hi < lo' then hi else lo'), some hi) := ⟨fun k hk => by cases hk; split <;> omega, fun k hk => by cases hk; exact hib⟩
        have neL : NE (some (if hi < lo' then hi else lo'), some hi) := fun a b q1 q2 => by
          cases q1
          cases q2
          split <;> omega
        refine ⟨fun σ' H' => ∃ (t : Addr) (sx : Stc), σ' = [some (.ref p), some (.int m), some (.ref d), some (.int (0 + (i : Int))), some (.int lo'), some (.int pk), some (.int hi), some (.ref t)] ∧ Same H12 H' ∧ H' t = some (.tup [ov sx.1, ov sx.2]) ∧ NE sx ∧ Bd1 sx, ?_, ?_⟩
        · walk_at "rd"
          refine ite_d (fun h => ?_) (fun h => ?_)
          · walk_at "rd"
            refine ⟨size_of (Nat.le_of_ble_eq_true rfl), fun r3 hr3 => ?_⟩
            obtain ⟨H13, e13, s13, h13⟩ := new_heap (o := .tup [.non, .int hi]) hr3
            rw [e13]
            walk_at "rd"
            exact ⟨r3, (none, some hi), rfl, s13, h13, (fun a b q1 => nomatch q1), (fun k hk => nomatch hk), bdL.2⟩
          · walk_at "rd"
            exact ⟨r2, (some (if hi < lo' then hi else lo'), some hi), rfl, Same.refl _, h12, neL, bdL⟩
        · rintro σ' H13 ⟨t, sx, rfl, s13, h13, nx⟩
          refine ⟨fun σ' H' => ∃ (t : Addr) (sx : Stc), σ' = [some (.ref p), some (.int m), some (.ref d), some (.int (0 + (i : Int))), some (.int lo'), some (.int pk), some (.int hi), some (.ref t)] ∧ Same H13 H' ∧ H' t = some (.tup [ov sx.1, ov sx.2]) ∧ NE sx ∧ Bd1 sx, ?_, ?_⟩
          · walk_at "rd"
            refine ite_d (fun h => ?_) (fun h => ?_)
            · walk_at "rd"
              refine ⟨size_of (Nat.le_of_ble_eq_true rfl), fun r3 hr3 => ?_⟩
              obtain ⟨H14, e14, s14, h14⟩ := new_heap (o := .tup [.int (if hi < lo' then hi else lo'), .non]) hr3
              rw [e14]
              walk_at "rd"
              exact ⟨r3, (some _, none), rfl, s14, h14, (fun a b _ q2 => nomatch q2), bdL.1, (fun k hk => nomatch hk)⟩
            · walk_at "rd"
              exact ⟨t, sx, rfl, Same.refl _, h13, nx⟩
          · rintro σ' H14 ⟨t', sy, rfl, s14, h14, ny⟩
            have k14 : Keep H5 H14 := (k12.trans (Same.keep s13)).trans (Same.keep s14)
            obtain ⟨vs, hvs, tu⟩ := sl5.keep k14
            have hl := tups_len tu
            walk_at "rd"
            refine i_tyL hvs ?_
            walk_at "rd"
            refine i_app hvs (by omega) ?_
            refine ⟨ss ++ [sy], _, _, _, _, _, rfl, (k5.trans k14).mut hd0, (((p12.up s13).up s14).mut hvs tu hLd).mono (by omega), ⟨_, upd_same, (tups_snoc tu ⟨t', rfl, h14⟩).mut hvs⟩, fun s hs => ?_, by simp; omega⟩
            rcases List.mem_append.mp hs with hs | hs
            · exact hne s hs
            · rw [List.mem_singleton.mp hs]; exact ny
    · rintro σ H3 ⟨ss, x3, x4, x5, x6, x7, rfl, k3, p3, sl3, hne, hlen⟩
      walk_at "rd"
      exact q d H3 ss hd0 k3 (p3.mono (by omega)) sl3 (fun s hs => (hne s hs).1) (fun s hs => (hne s hs).2) (by omega)
end
end Spk

set_option Elab.async false
set_option linter.all false
set_option maxRecDepth 100000
set_option maxHeartbeats 1000000
namespace Spk
open PySem L2
local macro_rules | `(tactic| walk_at "rd") => `(tactic| repeat (first
  | with_reducible refine i_seq ?_ | with_reducible refine i_asg ?_ | with_reducible refine i_ret ?_ | with_reducible refine i_ifS ?_ | with_reducible refine i_if ?_
  | with_reducible refine i_for ?_ | with_reducible refine i_iL ?_ | with_reducible refine i_iT ?_ | with_reducible refine i_ckw ?_ | with_reducible refine i_cm ?_ | with_reducible refine And.intro (rfl : V.ref _ = V.ref _) ?_ | with_reducible refine i_rng1 ?_ | with_reducible refine i_bm ?_ | with_reducible refine i_bm0 ?_
  | with_reducible refine i_drop ?_ | with_reducible refine i_next ?_
  | with_reducible refine i_var rfl ?_ | with_reducible refine i_c ?_ | with_reducible refine i_op ?_ | with_reducible refine i_un ?_ | with_reducible refine i_name ?_
  | with_reducible refine i_rI0 ?_ | with_reducible refine i_rU ?_ | with_reducible refine i_rEq rfl ?_ | with_reducible refine i_rNe rfl ?_
  | with_reducible refine i_test ?_ | with_reducible refine i_tB ?_ | with_reducible refine i_and ?_ | with_reducible refine i_or ?_ | with_reducible refine i_not ?_
  | with_reducible refine i_andV ?_ | with_reducible refine i_orV ?_ | with_reducible refine i_notV ?_
  | with_reducible refine i_cons ?_ | with_reducible refine i_nil ?_ | with_reducible refine i_cb ?_ | with_reducible refine i_call ?_ | with_reducible refine i_bl ?_
  | with_reducible refine i_tup ?_ | with_reducible refine i_lst ?_ | with_reducible refine i_par ?_ | with_reducible refine i_gcons ?_ | with_reducible refine i_gnil ?_
  | with_reducible refine And.intro (rfl : V.non = V.non) ?_ | with_reducible refine i_ixT (by assumption) rfl ?_ | with_reducible refine i_ixL (by assumption) rfl ?_ | with_reducible refine i_gtup (by assumption) rfl ?_
  | with_reducible refine i_gsub ?_
  | with_reducible refine Or.inl (Exists.intro _ (And.intro (rfl : [V.int _] = [V.int _]) ?_)) | with_reducible refine Exists.intro _ (And.intro (rfl : [V.int _] = [V.int _]) ?_)
  | with_reducible refine Or.inr (Exists.intro _ (And.intro (rfl : [V.bl _] = [V.bl _]) ?_))
  | with_reducible refine Exists.intro _ (Exists.intro _ (And.intro (rfl : [V.int _, V.int _] = [V.int _, V.int _]) ?_))
  | with_reducible refine Exists.intro _ (Exists.intro _ (And.intro (rfl : [V.ref _] = [V.ref _]) (And.intro (Or.inl (SqL.of (by assumption))) ?_)))
  | with_reducible refine i_rI (show (0 : Int) < _ by assumption) ?_ | with_reducible refine i_rI (show (0 : Int) < _ by decide) ?_
  | with_reducible refine i_rI (pow_ok (Nat.le_of_ble_eq_true rfl) (Nat.le_of_ble_eq_true rfl)) ?_
  | with_reducible refine i_rI (cmulL rfl) ?_))
/-- an operator of two forms -/
theorem op_or2 {X : Cx} {f : Value → Value → Sem Value} {r1 r2 : R2} (h1 : OpR X f r1) (h2 : OpR X f r2) : OpR X f (fun x y H Q => r1 x y H Q ∨ r2 x y H Q) := fun pins s σ H x y v u Q I rx ry h =>
  h.elim (fun z => h1 pins s σ H x y v u Q I rx ry z) fun z => h2 pins s σ H x y v u Q I rx ry z
/-- what the text says of the class's methods as they are called from outside -/
structure ClsM (K : PySem.W.Frag) (C : Addr) (mc : Value) (pe pb po pf ge gb go gf fO : Addr) : Prop where
  rd : ClX.CRead K C mc
  empty : ClX.CMet K C mc "empty" pe ge
  between : ClX.CMet K C mc "between" pb gb
  of : ClX.CMet K C mc "of" po go
  full : ClX.CMet K C mc "full" pf gf
  self : PySem.W.selfFirst K C = true
  orF : PySem.W.findIn K (.ref C) "__or__" = some (some (.ref fO))
  orI : PySem.W.isFn K (.ref fO) = true
/-- what the text says of in and bool -/
structure ClsK (K : PySem.W.Frag) (C fN fB : Addr) : Prop where
  inF : PySem.W.findIn K (.ref C) "__contains__" = some (some (.ref fN))
  inI : PySem.W.isFn K (.ref fN) = true
  boF : PySem.W.findIn K (.ref C) "__bool__" = some (some (.ref fB))
  boI : PySem.W.isFn K (.ref fB) = true
section
variable {P : Program} {w : World} {K : PySem.W.Frag} {mg : Str → Option Value} {base : Heap} {C fI fE : Addr} {mc : Value} {pe pb po pf ge gb go gf fO : Addr}
/-- the promises of the class, as they are called -/
structure ClsR (P : Program) (w : World) (K : PySem.W.Frag) (mg : Str → Option Value) (base : Heap) (C ge gb go gf fO fE : Addr) : Prop where
  empty : FnR P w K mg base CX0 3 ge (fun vs H Q E => sp_empty C (vs ++ []) H Q E)
  between : FnR P w K mg base CX0 3 gb (fun vs H Q E => sp_between C (vs ++ []) H Q E)
  of : FnR P w K mg base CX0 5 go (sp_of C)
  full : FnR P w K mg base CX0 3 gf (fun vs H Q E => sp_full C (vs ++ []) H Q E)
  or : FnR P w K mg base CX0 5 fO (fun vs H Q E => sp_or C (vs ++ []) H Q E)
  eq : FnR P w K mg base CX0 1 fE (fun vs H Q E => sp_eq C (vs ++ []) H Q E)
theorem tups_erase {H : Hp} : ∀ {vs : List V} {ss : List Stc} (k : Nat), Tups H vs ss → Tups H (vs.eraseIdx k) (ss.eraseIdx k)
  | _, _, _, .nil => .nil
  | _, _, 0, .cons _ t => t
  | _, _, k + 1, .cons r t => .cons r (tups_erase k t)
theorem hasL_erase : ∀ {ss : List Stc} {k : Nat} (h : k < ss.length) (n : Int), hasL ss n = (has1 ss[k] n || hasL (ss.eraseIdx k) n)
  | s :: ss, 0, _, n => by simp [hasL_cons]
  | s :: ss, k + 1, h, n => by
    rw [hasL_cons, hasL_erase (ss := ss) (k := k) (by simpa using h) n, List.eraseIdx_cons_succ, hasL_cons, List.getElem_cons_succ]
    cases has1 s n <;> simp
theorem seq_ix {n : Nat} {d : Int} (h0 : 0 ≤ d) (h1 : d < n) : seqIndex? d n = some d.toNat := by
  refine (ixN_seq (j := d.toNat) ?_).1
  unfold ixN
  rw [if_pos h0, if_pos h1]
abbrev s_made : Stmt := top 17
theorem sc_made : FnScope ["_law_pen_here", "_law_stretches_here", "_law_left", "_law_found", "_law_low", "_law_high", "_law_one"] ["_law_pen_here", "_law_stretches_here"] (defScope s_made) := ⟨rfl, rfl, rfl, by decide +kernel, rfl, by decide +kernel, by decide +kernel⟩
def sp_made (C : Addr) : Sp := fun vs H Q _ => ∃ p L n l ss, vs = [.ref p, .ref l] ∧ Pen H p L n ∧ n ≤ 9000 ∧ StrL H l ss ∧ ss.length ≤ 100 ∧ (∀ s, s ∈ ss → NE s) ∧
  ∀ r H' ps, Keep H H' → Pen H' p L (n + 3 * ss.length) → Rng C H' r ps → (∀ k, hasL ps k = hasL ss k) → ps.length ≤ ss.length → Q (.ref r) H'
structure MInv (C : Addr) (H0 : Hp) (p L l d : Addr) (n : Nat) (ss : List Stc) (m : Nat) (σ : L2.St) (H : Hp) : Prop where
  ex : ∃ (lt ps : List Stc) (r : Addr) (x4 x5 x6 : Option V), σ = [some (.ref p), some (.ref l), some (.ref d), some (.ref r), x4, x5, x6] ∧ m = lt.length ∧ Keep H0 H ∧ Pen H p L (n + 3 * (ss.length - lt.length)) ∧ StrL H d lt ∧ Rng C H r ps ∧
    (∀ k, (hasL ps k || hasL lt k) = hasL ss k) ∧ ps.length + lt.length ≤ ss.length ∧ ∀ s, s ∈ lt → NE s
theorem Rng.mut {H : Hp} {r d : Addr} {vs ws : List V} {ps : List Stc} (h : Rng C H r ps) (hd : H d = some (.lst vs)) : Rng C (upd H d (.lst ws)) r ps := by
  obtain ⟨dx, t, a, ⟨us, b, tu⟩, c⟩ := h
  refine ⟨dx, t, ?_, ⟨us, ?_, tu.mut hd⟩, c⟩
  · rw [upd_ne (ne_of a hd (by intro z; cases z))]
    exact a
  · rw [upd_ne (ne_of b hd (by intro z; cases z))]
    exact b
theorem ok_made {f fD : Addr} {fd fdD : FuncData} (F : Fun K "_law_made" "_law_made" s_made f fd) (F_draw : Fun K "_law_draw" "_law_draw" s_draw fD fdD) (B_draw : Binds K fdD ["_law_pen_here", "_law_many"] []) (g_draw : mg "_law_draw" = some (.ref fD))
    (G_draw : FnOk P w K mg base CX0 1 fD fdD ["_law_pen_here", "_law_many"] sp_draw) (CM : ClsM K C mc pe pb po pf ge gb go gf fO) (R : ClsR P w K mg base C ge gb go gf fO fE) (g_C : mg "Ranges" = some (.ref C))
    (z_list : mg "list" = none) (z_len : mg "len" = none) : FnOk P w K mg base CX0 6 f fd ["_law_pen_here", "_law_stretches_here"] (sp_made C) := by
  have R_empty := R.empty
  have R_between := R.between
  have R_of := R.of
  have R_or := R.or
  refine F.ok sc_made (fun vs H Q E h => ?_) (fun cdv A outer s H vs Q E hr h => ?_)
  · obtain ⟨p, L, n, l, ss, rfl, _⟩ := h
    rfl
  · obtain ⟨p, L, n, l, ss, rfl, hp, hn, ⟨vs, hl, tu⟩, hz, hne, q⟩ := h
    refine ⟨_, (pss_cons (ps_set (i := 2) sc_made.nd rfl (Or.inl rfl) (pe_callTy call_list_of (by rfl) z_list (by decide +kernel) (pa_cons (pv 1) pa_nil)))
 (pss_cons (ps_set (i := 3) sc_made.nd rfl (Or.inl rfl) (pe_cmeth0 (pe_glob rfl g_C (relR _)) CM.rd CM.empty R_empty (hr.mono (by decide)) pass0))
 (pss_cons (ps_while PassesOwn.never (pt_cmpR (op_neD hr.units) (pv 2) (pe_lst pa_nil) (nomark _))
 (pss_cons (ps_asg (pe_bm PySem.F.plainAttrs_list PySem.F.slot_list_pop PySem.F.type_list_pop mt_popAt (pv 2) (pa_cons (pe_call G_draw (hr.mono (by decide)) rfl g_draw F_draw.kp B_draw .nil pass0 (pa_cons (pv 0) (pa_cons (pe_callB call_len_seq (by rfl) z_len PySem.boot_len (pa_cons (pv 2) pa_nil)) pa_nil))) pa_nil)) (pg_tup (by rfl) (pgs_cons (pg_name (i := 4) sc_made.nd rfl (Or.inl rfl)) (pgs_cons (pg_name (i := 5) sc_made.nd rfl (Or.inl rfl)) pgs_nil))))
 (pss_cons (ps_set (i := 6) sc_made.nd rfl (Or.inl rfl) (ClX.pe_cmeth (pe_glob rfl g_C (relR _)) CM.rd CM.between R_between (hr.mono (by decide)) pass0 (pa_cons (pv 4) (pa_cons (pv 5) pa_nil))))
 (C8.pss_cut (ps_if (PW.pt (pw_and (pt_cmpR op_notN (pv 4) pe_non (nomark _)) (pw_and (pt_cmpR op_eq (pv 4) (pv 5) (nomark _)) (pw_and1 (pt_cmpR op_eq (pe_call G_draw (hr.mono (by decide)) rfl g_draw F_draw.kp B_draw .nil pass0 (pa_cons (pv 0) (pa_cons pe_int pa_nil))) pe_int (nomark _))))))
 (pss_one (ps_set (i := 6) sc_made.nd rfl (Or.inl rfl) (ClX.pe_cmeth (pe_glob rfl g_C (relR _)) CM.rd CM.of R_of (hr.mono (by decide)) pass0 (pa_cons (pv 4) (pa_cons (pv 4) pa_nil)))))
 pss_nil)
 (pss_one (ps_set (i := 3) sc_made.nd rfl (Or.inl rfl) (pe_ix ix_list (pe_lst (pa_cons (pe_op (op_own (op := .BitOr) R_or (hr.mono (by decide)) CM.self CM.orF CM.orI) (pv 3) (pv 6)) (pa_cons (pe_op (op_own (op := .BitOr) R_or (hr.mono (by decide)) CM.self CM.orF CM.orI) (pv 6) (pv 3)) pa_nil))) (pe_call G_draw (hr.mono (by decide)) rfl g_draw F_draw.kp B_draw .nil pass0 (pa_cons (pv 0) (pa_cons pe_int pa_nil))) (fun _ _ => rfl))))))))
 (pss_one (ps_ret (pv 3)))))), ?_⟩
    have hlen := tups_len tu
    walk_at "rd"
    intro d hd0
    obtain ⟨H1, e1, s1, hd⟩ := new_heap (o := .lst vs) hd0
    rw [e1]
    have hLd := hp.ne hd0
    walk_at "rd"
    refine ⟨rfl, fun r H2 s2 hr2 => ?_⟩
    have s02 : Same H H2 := fun b o z => s2 _ _ (s1 _ _ z)
    walk_at "rd"
    refine ⟨MInv C H p L l d n ss, ⟨_, ss, [], r, none, none, none, rfl, rfl, Same.keep s02, (hp.up s02).mono (by omega), ⟨vs, s2 _ _ hd, tu.up s02⟩, hr2, fun k => by rw [hasL_nil, Bool.false_or], by simp, hne⟩, ?_⟩
    rintro m σ H3 ⟨lt, ps, r, x4, x5, x6, rfl, em, k3, p3, sl3, hr3, hm3, hz3, hne3⟩
    walk_at "rd"
    refine ⟨Nat.zero_le _, fun y hy => ?_⟩
    obtain ⟨H4, e4, s4, h4⟩ := new_heap (o := .lst []) hy
    rw [e4]
    have sl4 := sl3.up s4
    refine ⟨.list (lt.map stD), .list (([] : List Stc).map stD), dp_strL sl4, dp_strL ⟨[], h4, .nil⟩, shaped_strL lt, shaped_strL [], ?_⟩
    rw [eqv_strL]
    walk_at "rd"
    refine ite_nd (fun hn0 => ?_) (fun he => ?_)
    · refine ⟨fun σ' H' => ∃ m', m' < m ∧ MInv C H p L l d n ss m' σ' H', fun _ _ h => h, ?_⟩
      obtain ⟨vs4, hd4, tu4⟩ := id sl4
      have hl4 := tups_len tu4
      have hpos : 0 < lt.length := List.length_pos_iff.mpr hn0
      walk_at "rd"
      refine i_tyL hd4 ?_
      walk_at "rd"
      refine ⟨p, L, _, _, rfl, p3.up s4, by omega, by omega, by omega, fun i H5 i0 i1 e5 p5 => ?_⟩
      walk_at "rd"
      have sl5 := sl4.keep e5
      have hd5 : H5 d = some (.lst vs4) := e5 _ _ (penny_tups tu4) hd4
      have tu5 := tu4.keep e5
      have hi : i.toNat < lt.length := by omega
      obtain ⟨v, hv, c, rfl, hc⟩ := tups_get tu5 hi
      refine ⟨d, vs4, i, i.toNat, .ref c, rfl, rfl, hd5, by omega, by omega, seq_ix i0 (by omega), hv, ?_⟩
      have k6 : Keep H (upd H5 d (.lst (vs4.eraseIdx i.toNat))) := ((k3.trans (Same.keep s4)).trans e5).mut hd0
      have p6 : Pen (upd H5 d (.lst (vs4.eraseIdx i.toNat))) p L (n + 3 * (ss.length - lt.length) + 1) := p5.mut hd5 tu5 hLd
      have sl6 : StrL (upd H5 d (.lst (vs4.eraseIdx i.toNat))) d (lt.eraseIdx i.toNat) := ⟨_, upd_same, (tups_erase i.toNat tu5).mut hd5⟩
      have hr6 : Rng C (upd H5 d (.lst (vs4.eraseIdx i.toNat))) r ps := Rng.mut ((hr3.up s4).keep e5) hd5
      have hc6 : upd H5 d (.lst (vs4.eraseIdx i.toNat)) c = some (.tup [ov lt[i.toNat].1, ov lt[i.toNat].2]) := by
        rw [upd_ne (ne_of hc hd5 (by intro z; cases z))]
        exact hc
      have he3 := fun k => hasL_erase hi k
      have hes : (lt.eraseIdx i.toNat).length = lt.length - 1 := by rw [List.length_eraseIdx, if_pos hi]
      have nex : NE lt[i.toNat] := hne3 _ (List.getElem_mem hi)
      generalize upd H5 d (.lst (vs4.eraseIdx i.toNat)) = H6 at *
      generalize lt[i.toNat] = sx at *
      have hne6 : ∀ s, s ∈ lt.eraseIdx i.toNat → NE s := fun s hs => hne3 s (List.mem_of_mem_eraseIdx hs)
      generalize lt.eraseIdx i.toNat = lt' at *
      obtain ⟨lo, hi'⟩ := sx
      dsimp only at hc6
      walk_at "rd"
      refine ⟨lo, hi', rfl, fun o H7 qs s7 ho hm7 hz7 => ?_⟩
      walk_at "rd"
      -- behind the if: a set with the integers of the stretch
      refine ⟨fun σ' H' => ∃ (o : Addr) (qs : List Stc), σ' = [some (.ref p), some (.ref l), some (.ref d), some (.ref r), some (ov lo), some (ov hi'), some (.ref o)] ∧ Keep H7 H' ∧ Pen H' p L (n + 3 * (ss.length - lt.length) + 2) ∧ Rng C H' o qs ∧ (∀ k, hasL qs k = has1 (lo, hi') k) ∧ qs.length ≤ 1, ?_, ?_⟩
      · have plain : ∃ (o' : Addr) (qs' : List Stc), ([some (.ref p), some (.ref l), some (.ref d), some (.ref r), some (ov lo), some (ov hi'), some (.ref o)] : L2.St) = [some (.ref p), some (.ref l), some (.ref d), some (.ref r), some (ov lo), some (ov hi'), some (.ref o')] ∧ Keep H7 H7 ∧ Pen H7 p L (n + 3 * (ss.length - lt.length) + 2) ∧ Rng C H7 o' qs' ∧ (∀ k, hasL qs' k = has1 (lo, hi') k) ∧ qs'.length ≤ 1 :=
          ⟨o, qs, rfl, Keep.refl _, (p6.up s7).mono (by omega), ho, hm7, hz7⟩
        walk_at "rd"
        cases lo with
        | none =>
          refine ite_nd (fun h => absurd rfl h) (fun _ => iteF ?_)
          walk_at "rd"
          exact plain
        | some a =>
          refine ite_nd (fun _ => ?_) (fun h => nomatch h)
          walk_at "rd"
          cases hi' with
          | none =>
            refine i_rEq rfl ?_
            walk_at "rd"
            refine ite_d (fun h => nomatch h) (fun _ => iteF ?_)
            walk_at "rd"
            exact plain
          | some b =>
            walk_at "rd"
            refine ite_d (fun hab => ?_) (fun _ => ?_)
            · have eab : a = b := V.int.inj hab
              subst eab
              walk_at "rd"
              refine ⟨p, L, _, 2, rfl, p6.up s7, by omega, by decide, by decide, fun dd H8 _ _ e8 p8 => ?_⟩
              walk_at "rd"
              refine ite_d (fun _ => ?_) (fun _ => ?_)
              · walk_at "rd"
                refine ⟨[a, a], rfl, by simp, fun o2 H9 rs s9 ho2 hm9 hz9 => ?_⟩
                walk_at "rd"
                have hmr : ∀ k, hasL rs k = has1 (some a, some a) k := fun k => by
                  rw [hm9 k]
                  simp [singles, hasL]
                have eo : rs = [(some a, some a)] := canon_unique ho2.canon (canon_one nex) fun k => by rw [hmr k, hasL_one]
                exact ⟨o2, rs, rfl, e8.trans (Same.keep s9), (p8.up s9).mono (by omega), ho2, hmr, by rw [eo]; exact Nat.le_refl _⟩
              · walk_at "rd"
                exact ⟨o, qs, rfl, e8, p8.mono (by omega), ho.keep e8, hm7, hz7⟩
            · walk_at "rd"
              exact plain
      · rintro σ' H8 ⟨o, qs, rfl, e8, p8, ho, hm8, hz8⟩
        have hr8 := (hr6.up s7).keep e8
        have sl8 := (sl6.up s7).keep e8
        have k8 : Keep H H8 := (k6.trans (Same.keep s7)).trans e8
        obtain ⟨dx1, t1, a1, b1⟩ := id hr8
        obtain ⟨dx2, t2, a2, b2⟩ := id ho
        walk_at "rd"
        refine ⟨r, o, _, _, _, _, rfl, rfl, a1, a2, r, o, ps, qs, rfl, hr8, ho, by omega, fun u1 H9 us1 s9 hu1 hm9 hz9 => ?_⟩
        walk_at "rd"
        refine ⟨o, r, _, _, _, _, rfl, rfl, s9 _ _ a2, s9 _ _ a1, o, r, qs, ps, rfl, ho.up s9, hr8.up s9, by omega, fun u2 H10 us2 s10 hu2 hm10 hz10 => ?_⟩
        walk_at "rd"
        refine ⟨size_of (Nat.le_of_ble_eq_true rfl), fun y2 hy2 => ?_⟩
        obtain ⟨H11, e11, s11, h11⟩ := new_heap (o := .lst [.ref u1, .ref u2]) hy2
        rw [e11]
        walk_at "rd"
        refine ⟨p, L, _, 2, rfl, ((p8.up s9).up s10).up s11, by omega, by decide, by decide, fun dd H12 d0 d1 e12 p12 => ?_⟩
        have pick : ∃ u us, atI [V.ref u1, .ref u2] dd = some (.ref u) ∧ Rng C H12 u us ∧ (∀ k, hasL us k = (hasL ps k || has1 (lo, hi') k)) ∧ us.length ≤ ps.length + 1 := by
          obtain rfl | rfl : dd = 0 ∨ dd = 1 := by omega
          · exact ⟨u1, us1, rfl, (((hu1.up s10).up s11).keep e12), fun k => (hm9 k).trans (by rw [← hm8 k]), by omega⟩
          · exact ⟨u2, us2, rfl, ((hu2.up s11).keep e12), fun k => (hm10 k).trans (by rw [← hm8 k]; exact Bool.or_comm _ _), by omega⟩
        obtain ⟨u, us, hat, hu, hmu, hzu⟩ := pick
        refine i_ixL (e12 _ _ rfl h11) hat ?_
        walk_at "rd"
        have k12 : Keep H8 H12 := (((Same.keep s9).trans (Same.keep s10)).trans (Same.keep s11)).trans e12
        refine ⟨lt'.length, by omega, ⟨lt', us, u, _, _, _, rfl, rfl, k8.trans k12, p12.mono (by omega), sl8.keep k12, hu, fun k => ?_, by omega, hne6⟩⟩
        rw [hmu k, Bool.or_assoc, ← he3 k]
        exact hm3 k
    · subst he
      walk_at "rd"
      have hm : ∀ k, hasL ps k = hasL ss k := fun k => by have := hm3 k; rwa [hasL_nil, Bool.or_false] at this
      refine q r H4 ps (k3.trans (Same.keep s4)) ?_ (hr3.up s4) hm (by omega)
      have := p3.up s4
      exact this.mono (by simp)

end
end Spk

set_option Elab.async false
set_option linter.all false
set_option maxRecDepth 100000
set_option maxHeartbeats 1000000
namespace Spk
open PySem L2
local macro_rules | `(tactic| walk_at "rd") => `(tactic| repeat (first
  | with_reducible refine i_seq ?_ | with_reducible refine i_asg ?_ | with_reducible refine i_ret ?_ | with_reducible refine i_ifS ?_ | with_reducible refine i_if ?_
  | with_reducible refine i_for ?_ | with_reducible refine i_iL ?_ | with_reducible refine i_iT ?_ | with_reducible refine i_ckw ?_ | with_reducible refine i_cm ?_ | with_reducible refine And.intro (rfl : V.ref _ = V.ref _) ?_ | with_reducible refine i_rng1 ?_ | with_reducible refine i_bm ?_ | with_reducible refine i_bm0 ?_
  | with_reducible refine i_drop ?_ | with_reducible refine i_next ?_
  | with_reducible refine i_var rfl ?_ | with_reducible refine i_c ?_ | with_reducible refine i_op ?_ | with_reducible refine i_un ?_ | with_reducible refine i_name ?_
  | with_reducible refine i_rI0 ?_ | with_reducible refine i_rU ?_ | with_reducible refine i_rEq rfl ?_ | with_reducible refine i_rNe rfl ?_
  | with_reducible refine i_test ?_ | with_reducible refine i_tB ?_ | with_reducible refine i_and ?_ | with_reducible refine i_or ?_ | with_reducible refine i_not ?_
  | with_reducible refine i_andV ?_ | with_reducible refine i_orV ?_ | with_reducible refine i_notV ?_
  | with_reducible refine i_cons ?_ | with_reducible refine i_nil ?_ | with_reducible refine i_cb ?_ | with_reducible refine i_call ?_ | with_reducible refine i_bl ?_
  | with_reducible refine i_tup ?_ | with_reducible refine i_lst ?_ | with_reducible refine i_par ?_ | with_reducible refine i_gcons ?_ | with_reducible refine i_gnil ?_
  | with_reducible refine And.intro (rfl : V.non = V.non) ?_ | with_reducible refine i_ixT (by assumption) rfl ?_ | with_reducible refine i_ixL (by assumption) rfl ?_ | with_reducible refine i_gtup (by assumption) rfl ?_
  | with_reducible refine i_gsub ?_
  | with_reducible refine Or.inl (Exists.intro _ (And.intro (rfl : [V.int _] = [V.int _]) ?_)) | with_reducible refine Exists.intro _ (And.intro (rfl : [V.int _] = [V.int _]) ?_)
  | with_reducible refine Or.inr (Exists.intro _ (And.intro (rfl : [V.bl _] = [V.bl _]) ?_))
  | with_reducible refine Exists.intro _ (Exists.intro _ (And.intro (rfl : [V.int _, V.int _] = [V.int _, V.int _]) ?_))
  | with_reducible refine Exists.intro _ (Exists.intro _ (And.intro (rfl : [V.ref _] = [V.ref _]) (And.intro (Or.inl (SqL.of (by assumption))) ?_)))
  | with_reducible refine i_rI (show (0 : Int) < _ by assumption) ?_ | with_reducible refine i_rI (show (0 : Int) < _ by decide) ?_
  | with_reducible refine i_rI (pow_ok (Nat.le_of_ble_eq_true rfl) (Nat.le_of_ble_eq_true rfl)) ?_
  | with_reducible refine i_rI (cmulL rfl) ?_))
section
variable {P : Program} {w : World} {K : PySem.W.Frag} {mg : Str → Option Value} {base : Heap} {C fI fE : Addr} {mc : Value} {pe pb po pf ge gb go gf fO : Addr}
theorem item_of {H : Hp} {vs : List V} {ss : List Stc} (tu : Tups H vs ss) {i : Nat} {x : V} (hx : vs[i]? = some x) : ∃ (hi : i < ss.length) (c : Addr), x = .ref c ∧ H c = some (.tup [ov ss[i].1, ov ss[i].2]) := by
  have hi : i < ss.length := by
    have := (List.getElem?_eq_some_iff.mp hx).1
    have := tups_len tu
    omega
  obtain ⟨v, hv, c, e, hc⟩ := tups_get tu hi
  rw [hx] at hv
  cases hv
  exact ⟨hi, c, e, hc⟩
/-! ### bounds -/
/-- nothing changes beyond B -/
def BndB (B : Int) (S : Int → Bool) : Prop := (∀ n m, B ≤ n → B ≤ m → S n = S m) ∧ (∀ n m, n ≤ -B → m ≤ -B → S n = S m)
abbrev Bnd : (Int → Bool) → Prop := BndB 15000000000000
theorem BndB.mono {B B' : Int} {S : Int → Bool} (h : BndB B S) (e : B ≤ B') : BndB B' S := ⟨fun n m a b => h.1 n m (by omega) (by omega), fun n m a b => h.2 n m (by omega) (by omega)⟩
def BdP (ps : List Stc) : Prop := ∀ s, s ∈ ps → (∀ k, s.1 = some k → -20000000000000 ≤ k ∧ k ≤ 20000000000000) ∧ (∀ k, s.2 = some k → -20000000000000 ≤ k ∧ k ≤ 20000000000000)
theorem bnd_eq {B : Int} {S T : Int → Bool} (h : BndB B T) (e : ∀ n, S n = T n) : BndB B S := ⟨fun n m a b => by rw [e n, e m]; exact h.1 n m a b, fun n m a b => by rw [e n, e m]; exact h.2 n m a b⟩
theorem bnd_or {B : Int} {S T : Int → Bool} (h : BndB B S) (g : BndB B T) : BndB B fun n => S n || T n := ⟨fun n m a b => by simp only [h.1 n m a b, g.1 n m a b], fun n m a b => by simp only [h.2 n m a b, g.2 n m a b]⟩
theorem bnd_and {B : Int} {S T : Int → Bool} (h : BndB B S) (g : BndB B T) : BndB B fun n => S n && T n := ⟨fun n m a b => by simp only [h.1 n m a b, g.1 n m a b], fun n m a b => by simp only [h.2 n m a b, g.2 n m a b]⟩
theorem bnd_not {B : Int} {S : Int → Bool} (h : BndB B S) : BndB B fun n => !S n := ⟨fun n m a b => by simp only [h.1 n m a b], fun n m a b => by simp only [h.2 n m a b]⟩
theorem bnd_const {B : Int} (b : Bool) : BndB B fun _ => b := ⟨fun _ _ _ _ => rfl, fun _ _ _ _ => rfl⟩
theorem bnd_has1 {s : Stc} (h1 : ∀ k, s.1 = some k → -2000000000000 ≤ k ∧ k ≤ 2000000000000) (h2 : ∀ k, s.2 = some k → -2000000000000 ≤ k ∧ k ≤ 2000000000000) : BndB 10000000000000 (has1 s) := by
  obtain ⟨l, r⟩ := s
  dsimp only at h1 h2
  constructor
  all_goals
    intro n m a b
    rw [Bool.eq_iff_iff]
    cases l with
    | none =>
      cases r with
      | none => simp [has1]
      | some y =>
        have := h2 y rfl
        simp [has1]
        omega
    | some x =>
      have := h1 x rfl
      cases r with
      | none =>
        simp [has1]
        omega
      | some y =>
        have := h2 y rfl
        simp [has1]
        omega
theorem bnd_list {ss : List Stc} (h : ∀ s, s ∈ ss → Bd1 s) : BndB 10000000000000 (hasL ss) := by
  induction ss with
  | nil => exact bnd_const false
  | cons s ss ih =>
    have h1 := h s (by simp)
    refine bnd_eq (bnd_or (bnd_has1 (s := s) (fun k hk => ?_) (fun k hk => ?_)) (ih fun t ht => h t (by simp [ht]))) fun n => hasL_cons s ss n
    · have := h1.1 k hk; omega
    · have := h1.2 k hk; omega
/-- the ends of the fewest stretches lie within -/
theorem bdp_of {ps : List Stc} (hc : Canon ps) (h : Bnd (hasL ps)) : BdP ps := by
  intro s hs
  obtain ⟨pre, rest, rfl⟩ := List.append_of_mem hs
  have hap := List.pairwise_append.mp hc.ap
  have low : ∀ k, s.1 = some k → hasL (pre ++ s :: rest) k = true ∧ hasL (pre ++ s :: rest) (k - 1) = false := fun k hk => by
    constructor
    · rw [hasL_append, hasL_cons, has_low (hc.ne s (by simp)) hk, Bool.true_or, Bool.or_true]
    · rw [Bool.eq_false_iff]
      intro z
      rw [hasL_append, Bool.or_eq_true] at z
      rcases z with z | z
      · obtain ⟨t, ht, h1⟩ := List.any_eq_true.mp z
        obtain ⟨x, y, e1, e2, q⟩ := hap.2.2 t ht s (by simp)
        rw [hk] at e2
        cases e2
        simp only [has1, e1, Bool.and_eq_true, decide_eq_true_eq] at h1
        omega
      · have : Canon (s :: rest) := ⟨fun x hx => hc.ne x (List.mem_append_right _ hx), hap.2.1⟩
        rw [ahead_no this hk (by omega)] at z
        cases z
  have high : ∀ k, s.2 = some k → hasL (pre ++ s :: rest) k = true ∧ hasL (pre ++ s :: rest) (k + 1) = false := fun k hk => by
    have hne := hc.ne s (by simp)
    constructor
    · rw [hasL_append, hasL_cons]
      have : has1 s k = true := has1_of (fun j hj => hne j k hj hk) fun j hj => by rw [hk] at hj; cases hj; exact Int.le_refl _
      rw [this, Bool.true_or, Bool.or_true]
    · rw [Bool.eq_false_iff]
      intro z
      rw [hasL_append, hasL_cons, Bool.or_eq_true, Bool.or_eq_true] at z
      have hcs : Canon (s :: rest) := ⟨fun x hx => hc.ne x (List.mem_append_right _ hx), hap.2.1⟩
      rcases z with z | z | z
      · obtain ⟨t, ht, h1⟩ := List.any_eq_true.mp z
        obtain ⟨x, y, e1, e2, q⟩ := hap.2.2 t ht s (by simp)
        have := hne y k e2 hk
        simp only [has1, e1, Bool.and_eq_true, decide_eq_true_eq] at h1
        omega
      · simp only [has1, hk, Bool.and_eq_true, decide_eq_true_eq] at z
        omega
      · rw [later_no hcs hk (Int.le_refl _)] at z
        cases z
  refine ⟨fun k hk => ?_, fun k hk => ?_⟩
  · obtain ⟨a, b⟩ := low k hk
    by_cases q1 : 20000000000000 < k
    · have := h.1 k (k - 1) (by omega) (by omega)
      rw [a, b] at this
      cases this
    · by_cases q2 : k < -20000000000000
      · have := h.2 k (k - 1) (by omega) (by omega)
        rw [a, b] at this
        cases this
      · omega
  · obtain ⟨a, b⟩ := high k hk
    by_cases q1 : 20000000000000 < k
    · have := h.1 k (k + 1) (by omega) (by omega)
      rw [a, b] at this
      cases this
    · by_cases q2 : k < -20000000000000
      · have := h.2 k (k + 1) (by omega) (by omega)
        rw [a, b] at this
        cases this
      · omega
theorem bdp_mir {ps : List Stc} (h : BdP ps) : BdP (mirF ps) := by
  intro s hs
  obtain ⟨t, ht, rfl⟩ := List.mem_map.mp hs
  have := h t (List.mem_reverse.mp ht)
  obtain ⟨l, r⟩ := t
  refine ⟨fun k hk => ?_, fun k hk => ?_⟩
  · cases r with
    | none => cases hk
    | some y =>
      cases hk
      have := this.2 y rfl
      omega
  · cases l with
    | none => cases hk
    | some y =>
      cases hk
      have := this.1 y rfl
      omega
/-! ### opposite, mirrored -/
abbrev s_opposite : Stmt := top 9
theorem sc_opposite : FnScope ["end"] ["end"] (defScope s_opposite) := ⟨rfl, rfl, rfl, by decide +kernel, rfl, by decide +kernel, by decide +kernel⟩
def sp_opposite : Sp := fun vs H Q _ => ∃ o : Option Int, vs = [ov o] ∧ Q (ov (negO o)) H
theorem ok_opposite {f : Addr} {fd : FuncData} (F : Fun K "opposite" "opposite" s_opposite f fd) : FnOk P w K mg base CX0 1 f fd ["end"] sp_opposite := by
  refine F.ok sc_opposite (fun vs H Q E h => ?_) (fun cdv A outer s H vs Q E hr h => ?_)
  · obtain ⟨o, rfl, _⟩ := h
    rfl
  · obtain ⟨o, rfl, q⟩ := h
    refine ⟨_, (pss_one (ps_ret (pe_ifExp (pt_cmpR op_isN (pv 0) pe_non (nomark _)) pe_non (pe_un un_neg (pv 0))))), ?_⟩
    walk_at "rd"
    cases o with
    | none =>
      refine ite_d (fun _ => ?_) (fun h => absurd rfl h)
      exact q
    | some i =>
      refine ite_d (fun h => nomatch h) (fun _ => ?_)
      walk_at "rd"
      exact q
theorem tups_reverse {H : Hp} {vs : List V} {ps : List Stc} (h : Tups H vs ps) : Tups H vs.reverse ps.reverse := by
  induction h with
  | nil => exact .nil
  | cons r t ih =>
    rw [List.reverse_cons, List.reverse_cons]
    exact tups_snoc ih r
structure WInv (H0 : Hp) (D : Addr) (ps : List Stc) (i : Nat) (H : Hp) : Prop where
  ex : ∃ vs, Same H0 H ∧ H D = some (.lst vs) ∧ Tups H vs ((ps.take i).map mir1)
abbrev s_mirrored : Stmt := top 8
theorem sc_mirrored : FnScope ["parts", "low", "high"] ["parts"] (defScope s_mirrored) := ⟨rfl, rfl, rfl, by decide +kernel, rfl, by decide +kernel, by decide +kernel⟩
def sp_mirrored : Sp := fun vs H Q _ => ∃ t ps, vs = [.ref t] ∧ PartsT H t ps ∧ ps.length ≤ 2000 ∧ ∀ p H', Same H H' → PartsT H' p (mirF ps) → Q (.ref p) H'
theorem ok_mirrored {f fO : Addr} {fd fdO : FuncData} (F : Fun K "mirrored" "mirrored" s_mirrored f fd) (F_opposite : Fun K "opposite" "opposite" s_opposite fO fdO) (B_opposite : Binds K fdO ["end"] []) (g_opposite : mg "opposite" = some (.ref fO)) (z_tuple : mg "tuple" = none) :
    FnOk P w K mg base CX0 2 f fd ["parts"] sp_mirrored := by
  have G_opposite : FnOk P w K mg base CX0 1 fO fdO ["end"] sp_opposite := ok_opposite F_opposite
  refine F.ok sc_mirrored (fun vs H Q E h => ?_) (fun cdv A outer s H vs Q E hr h => ?_)
  · obtain ⟨t, ps, rfl, _⟩ := h
    rfl
  · obtain ⟨t, ps, rfl, ⟨us, ht, tu⟩, hz, q⟩ := h
    refine ⟨_, (pss_one (ps_ret (pe_callTy call_tuple_of (by rfl) z_tuple (by decide +kernel) (pa_cons (pe_lc (own := [("low", 1), ("high", 2)]) (g := gTup K 2 (gCons (gName 1) (gCons (gName 2) gNil))) (tt := tYes) rfl sc_mirrored.nd (pi_tup (pe_revT (pv 0))) (blkOk_by (own := [("low", 1), ("high", 2)]) (N := ["parts", "low", "high"]) (sc := defScope s_mirrored) (by decide +kernel)) (fun _ _ _ _ _ => pg_tup (by rfl) (pgs_cons (pg_name (i := 1) sc_mirrored.nd rfl (Or.inl rfl)) (pgs_cons (pg_name (i := 2) sc_mirrored.nd rfl (Or.inl rfl)) pgs_nil))) (fun _ _ _ _ _ => pts_nil) (fun _ _ _ _ _ => (pe_tup (pa_cons (pe_call G_opposite (hr.mono (by decide)) rfl g_opposite F_opposite.kp B_opposite .nil pass0 (pa_cons (pv 2) pa_nil)) (pa_cons (pe_call G_opposite (hr.mono (by decide)) rfl g_opposite F_opposite.kp B_opposite .nil pass0 (pa_cons (pv 1) pa_nil)) pa_nil))))) pa_nil)))), ?_⟩
    have hlen := tups_len tu
    walk_at "rd"
    unfold tLc tRevT
    walk_at "rd"
    refine ⟨t, us, rfl, SqT.of ht, fun r hr0 => ?_⟩
    obtain ⟨H1, e1, s1, h1⟩ := new_heap (o := .tup us.reverse) hr0
    rw [e1]
    have tr := (tups_reverse tu).up s1
    have hlr := tups_len tr
    refine ⟨r, rfl, ⟨_, SqT.of h1⟩, fun D hD => ?_⟩
    obtain ⟨H2, e2, s2, h2⟩ := new_heap (o := .lst []) hD
    refine lc_tup (K := K) (a := r) (xs := us.reverse) (WInv H1 D ps.reverse) ⟨[], by rw [e2]; exact s2, by rw [e2]; exact h2, .nil⟩ ?_ ?_ ?_
    · rintro i H' _ ⟨vs, sm, _⟩
      exact SqT.of (sm _ _ h1)
    · rintro i x H3 hx ⟨vs, sm, hd, tv⟩
      obtain ⟨hi, c, rfl, hc⟩ := item_of tr hx
      have hc3 := sm _ _ hc
      have et : (ps.reverse.take (i + 1)).map mir1 = (ps.reverse.take i).map mir1 ++ [mir1 ps.reverse[i]] := by
        rw [List.take_succ_eq_append_getElem hi, List.map_append]
        rfl
      generalize ps.reverse[i] = sx at *
      obtain ⟨lo, hi'⟩ := sx
      dsimp only at hc3
      have hl := tups_len tv
      have hl2 : vs.length ≤ 100000 := by
        rw [hl, List.length_map, List.length_take]
        rw [List.length_reverse] at hlr
        omega
      walk_at "rd"
      refine ⟨rfl, i_yes (iteT ?_)⟩
      walk_at "rd"
      refine ⟨hi', rfl, ?_⟩
      walk_at "rd"
      refine ⟨lo, rfl, ?_⟩
      walk_at "rd"
      refine ⟨size_of (Nat.le_of_ble_eq_true rfl), fun p hp => ?_⟩
      obtain ⟨H4, e4, s4, h4⟩ := new_heap (o := .tup [ov (negO hi'), ov (negO lo)]) hp
      rw [e4]
      refine ⟨vs, s4 _ _ hd, size_lt hl2, ⟨vs ++ [.ref p], Same.mut (fun b o z => s4 _ _ (sm _ _ z)) hD, upd_same, ?_⟩⟩
      rw [et]
      exact Tups.mut (tups_snoc (tv.up s4) ⟨p, rfl, h4⟩) (s4 _ _ hd)
    · rintro H3 ⟨vs, sm, hd, tv⟩
      have e3 : (ps.reverse.take us.reverse.length).map mir1 = mirF ps := by
        rw [List.take_of_length_le (by rw [List.length_reverse, List.length_reverse]; omega)]
        rfl
      rw [e3] at tv
      refine ⟨D, vs, rfl, .inl ⟨SqL.of hd, fun p6 hp6 => ?_⟩⟩
      obtain ⟨H6, e6, s6, h6⟩ := new_heap (o := .tup vs) hp6
      rw [e6]
      exact q p6 H6 (fun b o z => s6 _ _ (sm _ _ (s1 _ _ z))) ⟨vs, h6, tv.up s6⟩
/-! ### first_numbers -/
theorem rgV_eq (a b : Int) : rgV a b = (rg a b).map V.int := by
  unfold rgV rg
  rw [List.map_map]
  rfl
theorem if_start {σ : L2.St} {H : Hp} {Q : VK} {lo : Option Int} {least : Int} {i j : Nat} {r : List V → Hp → VK → Prop} (h1 : σ[i]? = some (some (.int least))) (h4 : σ[j]? = some (some (ov lo)))
    (hr : ∀ a b : Int, Q (.int (if b > a then b else a)) H → r [.int a, .int b] H Q) (q : Q (.int (startF least lo)) H) : if decide (ov lo = V.non) = true then tVar i σ H Q else tCB r (tCons (tVar j) (tCons (tVar i) tNil)) σ H Q := by
  cases lo with
  | none => exact ite_d (fun _ => ⟨_, h1, q⟩) (fun h => absurd rfl h)
  | some k =>
    refine ite_d (fun h => nomatch h) (fun _ => ?_)
    exact i_cb (i_cons ⟨_, h4, i_cons ⟨_, h1, i_nil (hr k least q)⟩⟩)
structure FNInv (H0 : Hp) (t d : Addr) (ps : List Stc) (least : Int) (c : Nat) (i : Nat) (σ : L2.St) (H : Hp) : Prop where
  ex : ∃ (found : List Int) (x4 x5 x6 x7 : Option V), σ = [some (.ref t), some (.int least), some (.int c), some (.ref d), x4, x5, x6, x7] ∧ Same H0 H ∧ H d = some (.lst (found.map V.int)) ∧ Fst (hasL (ps.take i)) id least c found
abbrev s_first_numbers : Stmt := top 10
theorem sc_first_numbers : FnScope ["parts", "least", "count", "found", "low", "high", "start", "behind"] ["parts", "least", "count"] (defScope s_first_numbers) := ⟨rfl, rfl, rfl, by decide +kernel, rfl, by decide +kernel, by decide +kernel⟩
def sp_first : Sp := fun vs H Q _ => ∃ t ps least, ∃ c : Nat, vs = [.ref t, .int least, .int c] ∧ PartsT H t ps ∧ Canon ps ∧ BdP ps ∧ 0 ≤ least ∧ least ≤ 1000 ∧ c ≤ 10000 ∧ ∀ d H' out, H d = none → Same H H' → H' d = some (.lst (out.map V.int)) → Fst (hasL ps) id least c out → Q (.ref d) H'
theorem ok_first {f : Addr} {fd : FuncData} (F : Fun K "first_numbers" "first_numbers" s_first_numbers f fd) (z_len : mg "len" = none) (z_max : mg "max" = none) (z_min : mg "min" = none) (z_list : mg "list" = none) (z_range : mg "range" = none) :
    FnOk P w K mg base CX0 1 f fd ["parts", "least", "count"] sp_first := by
  refine F.ok sc_first_numbers (fun vs H Q E h => ?_) (fun cdv A outer s H vs Q E hr h => ?_)
  · obtain ⟨t, ps, least, c, rfl, _⟩ := h
    rfl
  · obtain ⟨t, ps, least, c, rfl, ⟨us, ht, tu⟩, hc, hb, l0, l1, hcc, q⟩ := h
    refine ⟨_, (pss_cons (ps_set (i := 3) sc_first_numbers.nd rfl (Or.inl rfl) (pe_lst pa_nil))
 (pss_cons (ps_for PassesOwn.never rfl (pi_tup (pv 0)) (pg_tup (by rfl) (pgs_cons (pg_name (i := 4) sc_first_numbers.nd rfl (Or.inl rfl)) (pgs_cons (pg_name (i := 5) sc_first_numbers.nd rfl (Or.inl rfl)) pgs_nil)))
 (pss_cons (ps_set (i := 6) sc_first_numbers.nd rfl (Or.inl rfl) (pe_ifExp (pt_cmpR op_isN (pv 4) pe_non (nomark _)) (pv 1) (pe_callB (call_max2 rfl) (by rfl) z_max (by decide +kernel) (pa_cons (pv 4) (pa_cons (pv 1) pa_nil)))))
 (pss_cons (ps_set (i := 7) sc_first_numbers.nd rfl (Or.inl rfl) (pe_op op_sub (pe_op op_add (pv 6) (pv 2)) (pe_callB call_len_seq (by rfl) z_len PySem.boot_len (pa_cons (pv 3) pa_nil))))
 (C8.pss_cut (ps_if (pt_cmpR op_notN (pv 5) pe_non (nomark _))
 (pss_one (ps_set (i := 7) sc_first_numbers.nd rfl (Or.inl rfl) (pe_callB (call_min2 rfl) (by rfl) z_min (by decide +kernel) (pa_cons (pv 7) (pa_cons (pe_op op_add (pv 5) pe_int) pa_nil)))))
 pss_nil)
 (pss_one (ps_expr (pe_bm PySem.F.plainAttrs_list PySem.F.slot_list_extend PySem.F.type_list_extend mt_extend (pv 3) (pa_cons (pe_listRg rfl (by rfl) z_list (prg_2 (by rfl) z_range (pv 6) (pv 7))) pa_nil))))))))
 (pss_one (ps_ret (pv 3))))), ?_⟩
    have hlen := tups_len tu
    walk_at "rd"
    refine ⟨Nat.zero_le _, fun d hd0 => ?_⟩
    obtain ⟨H1, e1, s1, hd⟩ := new_heap (o := .lst []) hd0
    rw [e1]
    walk_at "rd"
    refine ⟨t, rfl, ⟨_, SqT.of (s1 _ _ ht)⟩, for_tup (K := K) (a := t) (xs := us) (FNInv H t d ps least c) ⟨[], none, none, none, none, rfl, s1, hd, first_none⟩ ?_ ?_ ?_⟩
    · rintro i σ H' _ ⟨found, x4, x5, x6, x7, _, sm, _⟩
      exact SqT.of (sm _ _ ht)
    · rintro i x σ H2 hx ⟨found, x4, x5, x6, x7, rfl, sm, hd2, hf⟩
      obtain ⟨hi, c', rfl, hc'⟩ := item_of tu hx
      have hc2 := sm _ _ hc'
      have ep : ps = ps.take i ++ ps[i] :: ps.drop (i + 1) := by
        rw [← List.drop_eq_getElem_cons hi, List.take_append_drop]
      have hcan : Canon (ps.take i ++ ps[i] :: ps.drop (i + 1)) := by rw [← ep]; exact hc
      have hst := first_step hcan hf
      rw [← List.take_succ_eq_append_getElem hi] at hst
      have hbx := hb ps[i] (List.getElem_mem hi)
      generalize ps[i] = sx at *
      obtain ⟨lo, hi'⟩ := sx
      dsimp only at hc2 hst hbx
      have hfl := hf.len
      have st0 : -30000000000000 ≤ startF least lo ∧ startF least lo ≤ 30000000000000 := by
        cases lo with
        | none => simp only [startF]; omega
        | some k =>
          have := hbx.1 k rfl
          simp only [startF]
          split <;> omega
      have st1 : -30000000000000 ≤ behindF (startF least lo + c - found.length) hi' ∧ behindF (startF least lo + c - found.length) hi' ≤ startF least lo + c - found.length := by
        cases hi' with
        | none => simp only [behindF]; omega
        | some k =>
          have := hbx.2 k rfl
          simp only [behindF]
          split <;> omega
      walk_at "rd"
      refine if_start rfl rfl (fun a b z => ⟨a, b, rfl, z⟩) ?_
      walk_at "rd"
      rw [List.length_map]
      refine ⟨fun σ' H' => σ' = [some (.ref t), some (.int least), some (.int c), some (.ref d), some (ov lo), some (ov hi'), some (.int (startF least lo)), some (.int (behindF (startF least lo + c - found.length) hi'))] ∧ H' = H2, ?_, ?_⟩
      · walk_at "rd"
        cases hi' with
        | none =>
          refine ite_nd (fun h => absurd rfl h) (fun _ => ?_)
          walk_at "rd"
          exact ⟨rfl, rfl⟩
        | some k =>
          refine ite_nd (fun _ => ?_) (fun h => nomatch h)
          walk_at "rd"
          exact ⟨rfl, rfl⟩
      · rintro σ' H3 ⟨rfl, e⟩
        subst e
        walk_at "rd"
        refine i_tyL hd2 ?_
        walk_at "rd"
        unfold tLstRg tRg2
        walk_at "rd"
        refine ⟨_, _, rfl, rfl, ⟨by omega, by omega, by omega, by omega, by omega⟩, fun y hy => ?_⟩
        rw [rgV_eq]
        obtain ⟨H4, e4, s4, h4⟩ := new_heap (o := .lst ((rg (startF least lo) (behindF (startF least lo + c - found.length) hi')).map V.int)) hy
        rw [e4]
        walk_at "rd"
        have hfl2 := hst.len
        rw [List.length_append] at hfl2
        refine ⟨d, y, _, _, rfl, rfl, s4 _ _ hd2, h4, size_of (by rw [List.length_map, List.length_map]; omega), ?_⟩
        rw [← List.map_append]
        exact ⟨_, _, _, _, _, rfl, Same.mut (fun b o z => s4 _ _ (sm _ _ z)) hd0, upd_same, hst⟩
    · rintro σ H2 ⟨found, x4, x5, x6, x7, rfl, sm, hd2, hf⟩
      walk_at "rd"
      rw [hlen, List.take_length] at hf
      exact q d H2 found hd0 sm hd2 hf
end
end Spk

set_option Elab.async false
set_option linter.all false
set_option maxRecDepth 100000
set_option maxHeartbeats 1000000
namespace Spk
open PySem L2
local macro_rules | `(tactic| walk_at "rd") => `(tactic| repeat (first
  | with_reducible refine i_seq ?_ | with_reducible refine i_asg ?_ | with_reducible refine i_ret ?_ | with_reducible refine i_ifS ?_ | with_reducible refine i_if ?_
  | with_reducible refine i_for ?_ | with_reducible refine i_iL ?_ | with_reducible refine i_iT ?_ | with_reducible refine i_ckw ?_ | with_reducible refine i_cm ?_ | with_reducible refine And.intro (rfl : V.ref _ = V.ref _) ?_ | with_reducible refine i_rng1 ?_ | with_reducible refine i_bm ?_ | with_reducible refine i_bm0 ?_
  | with_reducible refine i_drop ?_ | with_reducible refine i_next ?_
  | with_reducible refine i_var rfl ?_ | with_reducible refine i_c ?_ | with_reducible refine i_op ?_ | with_reducible refine i_un ?_ | with_reducible refine i_name ?_
  | with_reducible refine i_rI0 ?_ | with_reducible refine i_rU ?_ | with_reducible refine i_rEq rfl ?_ | with_reducible refine i_rNe rfl ?_
  | with_reducible refine i_test ?_ | with_reducible refine i_tB ?_ | with_reducible refine i_and ?_ | with_reducible refine i_or ?_ | with_reducible refine i_not ?_
  | with_reducible refine i_andV ?_ | with_reducible refine i_orV ?_ | with_reducible refine i_notV ?_
  | with_reducible refine i_cons ?_ | with_reducible refine i_nil ?_ | with_reducible refine i_cb ?_ | with_reducible refine i_call ?_ | with_reducible refine i_bl ?_
  | with_reducible refine i_tup ?_ | with_reducible refine i_lst ?_ | with_reducible refine i_par ?_ | with_reducible refine i_gcons ?_ | with_reducible refine i_gnil ?_
  | with_reducible refine And.intro (rfl : V.non = V.non) ?_ | with_reducible refine i_ixT (by assumption) rfl ?_ | with_reducible refine i_ixL (by assumption) rfl ?_ | with_reducible refine i_gtup (by assumption) rfl ?_
  | with_reducible refine i_gsub ?_
  | with_reducible refine Or.inl (Exists.intro _ (And.intro (rfl : [V.int _] = [V.int _]) ?_)) | with_reducible refine Exists.intro _ (And.intro (rfl : [V.int _] = [V.int _]) ?_)
  | with_reducible refine Or.inr (Exists.intro _ (And.intro (rfl : [V.bl _] = [V.bl _]) ?_))
  | with_reducible refine Exists.intro _ (Exists.intro _ (And.intro (rfl : [V.int _, V.int _] = [V.int _, V.int _]) ?_))
  | with_reducible refine Exists.intro _ (Exists.intro _ (And.intro (rfl : [V.ref _] = [V.ref _]) (And.intro (Or.inl (SqL.of (by assumption))) ?_)))
  | with_reducible refine i_rI (show (0 : Int) < _ by assumption) ?_ | with_reducible refine i_rI (show (0 : Int) < _ by decide) ?_
  | with_reducible refine i_rI (pow_ok (Nat.le_of_ble_eq_true rfl) (Nat.le_of_ble_eq_true rfl)) ?_
  | with_reducible refine i_rI (cmulL rfl) ?_))
section
variable {P : Program} {w : World} {K : PySem.W.Frag} {mg : Str → Option Value} {base : Heap} {C fI fE : Addr} {mc : Value} {pe pb po pf ge gb go gf fO : Addr}
abbrev s_place_of : Stmt := top 11
theorem sc_place_of : FnScope ["number"] ["number"] (defScope s_place_of) := ⟨rfl, rfl, rfl, by decide +kernel, rfl, by decide +kernel, by decide +kernel⟩
def sp_place_of : Sp := fun vs H Q _ => ∃ n : Int, vs = [.int n] ∧ Q (.int (Spk.place n)) H
theorem ok_place_of {f : Addr} {fd : FuncData} (F : Fun K "place_of" "place_of" s_place_of f fd) : FnOk P w K mg base CX0 1 f fd ["number"] sp_place_of := by
  refine F.ok sc_place_of (fun vs H Q E h => ?_) (fun cdv A outer s H vs Q E hr h => ?_)
  · obtain ⟨n, rfl, _⟩ := h
    rfl
  · obtain ⟨n, rfl, q⟩ := h
    refine ⟨_, (pss_one (ps_ret (pe_ifExp (pt_cmpR op_gt (pv 0) pe_int (nomark _)) (pe_op op_sub (pe_op op_mul pe_int (pv 0)) pe_int) (pe_op op_mul (pe_un un_neg pe_int) (pv 0))))), ?_⟩
    unfold Spk.place at q
    walk_at "rd"
    refine ite_d (fun h => ?_) (fun h => ?_)
    · rw [if_pos h] at q
      walk_at "rd"
      exact q
    · rw [if_neg h] at q
      walk_at "rd"
      exact q
theorem sorted_place (l : List Int) : byKeys (l.map V.int) (l.map fun n => PyData.int (Spk.place n)) = (l.mergeSort fun a b => decide (Spk.place a ≤ Spk.place b)).map V.int := by
  unfold byKeys
  rw [List.zip_map', ← List.map_mergeSort (f := fun n => (V.int n, PyData.int (Spk.place n))) (r := fun a b => decide (Spk.place a ≤ Spk.place b)) (s := PySem.W.dataLe false fun b : V × PyData => b.2) (fun a _ b _ => (congrFun (congrFun (PySem.W.dataLe_int Spk.place) a) b).symm), List.map_map]
  rfl
theorem sort_perm (l : List Int) : (l.mergeSort fun a b => decide (Spk.place a ≤ Spk.place b)).Perm l := List.mergeSort_perm _ _
theorem sort_asc (l : List Int) : (l.mergeSort fun a b => decide (Spk.place a ≤ Spk.place b)).Pairwise fun a b => Spk.place a ≤ Spk.place b := by
  have := List.pairwise_mergeSort (le := fun a b => decide (Spk.place a ≤ Spk.place b)) (fun a b c h1 h2 => by simp only [decide_eq_true_eq] at *; omega) (fun a b => by simp only [Bool.or_eq_true, decide_eq_true_eq]; omega) l
  exact this.imp fun h => by simpa using h
theorem cut_take (xs : List V) (c : Nat) : cutV xs none (some (c : Int)) = xs.take c := by
  unfold cutV
  rw [HT.sIx_none, HT.sIx_nat, List.drop_zero, Nat.sub_zero, ← List.take_eq_take_min]
structure NgInv (H0 : Hp) (D : Addr) (ns : List Int) (i : Nat) (H : Hp) : Prop where
  ex : Same H0 H ∧ H D = some (.lst (((ns.take i).map fun n => -n).map V.int))
theorem int_of {ns : List Int} {i : Nat} {x : V} (hx : (ns.map V.int)[i]? = some x) : ∃ (hi : i < ns.length), x = .int ns[i] := by
  have hi : i < ns.length := by
    have := (List.getElem?_eq_some_iff.mp hx).1
    simpa using this
  refine ⟨hi, ?_⟩
  rw [List.getElem?_map, List.getElem?_eq_getElem hi] at hx
  exact (Option.some.inj hx).symm
theorem same_tr {H0 H1 H2 : Hp} (a : Same H0 H1) (b : Same H1 H2) : Same H0 H2 := fun x o z => b _ _ (a _ _ z)
abbrev s_Ranges_sample : Stmt := inClass (top 1) 12
theorem sc_Ranges_sample : FnScope ["self", "count", "upward", "downward", "number"] ["self", "count"] (defScope s_Ranges_sample) := ⟨rfl, rfl, rfl, by decide +kernel, rfl, by decide +kernel, by decide +kernel⟩
def sp_sample (C : Addr) : Sp := fun vs H Q _ => ∃ a ps, ∃ c : Nat, vs = [.ref a, .int c] ∧ Rng C H a ps ∧ ps.length ≤ 1900 ∧ Bnd (hasL ps) ∧ c ≤ 4000 ∧ ∀ d H' out, H d = none → Same H H' → H' d = some (.lst (out.map V.int)) → Fst (hasL ps) Spk.place 0 c out → Q (.ref d) H'
theorem ok_sample {f f1 f2 f3 : Addr} {fd fd1 fd2 fd3 : FuncData} (F : Fun K "sample" "Ranges.sample" s_Ranges_sample f fd) (T : ClsT K mg C fI fE)
    (F_first_numbers : Fun K "first_numbers" "first_numbers" s_first_numbers f1 fd1) (B_first_numbers : Binds K fd1 ["parts", "least", "count"] []) (g_first_numbers : mg "first_numbers" = some (.ref f1)) (G_first_numbers : FnOk P w K mg base CX0 1 f1 fd1 ["parts", "least", "count"] sp_first)
    (F_mirrored : Fun K "mirrored" "mirrored" s_mirrored f2 fd2) (B_mirrored : Binds K fd2 ["parts"] []) (g_mirrored : mg "mirrored" = some (.ref f2)) (G_mirrored : FnOk P w K mg base CX0 2 f2 fd2 ["parts"] sp_mirrored)
    (F_place_of : Fun K "place_of" "place_of" s_place_of f3 fd3) (B_place_of : Binds K fd3 ["number"] []) (g_place_of : mg "place_of" = some (.ref f3)) (z_sorted : mg "sorted" = none) : FnOk P w K mg base CX0 4 f fd ["self", "count"] (sp_sample C) := by
  have G_place_of : FnOk P w K mg base CX0 1 f3 fd3 ["number"] sp_place_of := ok_place_of F_place_of
  have RP := FnOk.raw G_place_of B_place_of .nil
  refine F.ok sc_Ranges_sample (fun vs H Q E h => ?_) (fun cdv A outer s H vs Q E hr h => ?_)
  · obtain ⟨a, ps, c, rfl, _⟩ := h
    rfl
  · obtain ⟨a, ps, c, rfl, ⟨dx, t, ha, pa, ca⟩, hz, hb, hcc, q⟩ := h
    refine ⟨_, (pss_cons (ps_set (i := 2) sc_Ranges_sample.nd rfl (Or.inl rfl) (pe_call G_first_numbers (hr.mono (by decide)) rfl g_first_numbers F_first_numbers.kp B_first_numbers .nil pass0 (pa_cons (pe_fld (pv 0) rfl) (pa_cons pe_int (pa_cons (pv 1) pa_nil)))))
 (pss_cons (ps_setLc (i := 3) (own := [("number", 4)]) (g := gName 4) (tt := tYes) rfl sc_Ranges_sample.nd rfl rfl (sw_true rfl rfl rfl (by decide +kernel)) (pi_list (pe_call G_first_numbers (hr.mono (by decide)) rfl g_first_numbers F_first_numbers.kp B_first_numbers .nil pass0 (pa_cons (pe_call G_mirrored (hr.mono (by decide)) rfl g_mirrored F_mirrored.kp B_mirrored .nil pass0 (pa_cons (pe_fld (pv 0) rfl) pa_nil)) (pa_cons pe_int (pa_cons (pv 1) pa_nil))))) (blkOk_by (own := [("number", 4)]) (N := ["self", "count", "upward", "downward", "number"]) (sc := defScope s_Ranges_sample) (by decide +kernel)) (fun _ _ _ _ _ => pg_name (i := 4) sc_Ranges_sample.nd rfl (Or.inl rfl)) (fun _ _ _ _ _ => pts_nil) (fun _ _ _ _ _ => (pe_un un_neg (pv 4))))
 (pss_one (ps_ret (pe_slice sl_list (pe_callBK (cr_sortKey RP (hr.mono (by decide))) (by rfl) z_sorted (by decide +kernel) (pa_cons (pe_op op_cat (pv 2) (pv 3)) pa_nil) (pk_cons (pe_glob rfl g_place_of (relR _)) pk_nil)) po_none (po_some (pv 1))))))), ?_⟩
    have bd := bdp_of ca hb
    walk_at "rd"
    refine ⟨_, rfl, a, C, dx, _, _, rfl, ha, T.cl, T.nP, lk_parts, ?_⟩
    walk_at "rd"
    refine ⟨t, ps, 0, c, rfl, pa, ca, bd, by decide, by decide, by omega, fun d1 H1 up n1 s1 h1 f1 => ?_⟩
    walk_at "rd"
    unfold tLc
    walk_at "rd"
    refine ⟨_, rfl, a, C, dx, _, _, rfl, s1 _ _ ha, T.cl, T.nP, lk_parts, ?_⟩
    walk_at "rd"
    refine ⟨t, ps, rfl, pa.up s1, by omega, fun p2 H2 s2 hp2 => ?_⟩
    walk_at "rd"
    refine ⟨p2, mirF ps, 1, c, rfl, hp2, canon_mir ca, bdp_mir bd, by decide, by decide, by omega, fun d2 H3 down n2 s3 h3 f3' => ?_⟩
    have s13 := same_tr s2 s3
    have s03 := same_tr s1 s13
    refine ⟨d2, rfl, ⟨_, SqL.of h3⟩, fun D hD => ?_⟩
    obtain ⟨H4, e4, s4, h4⟩ := new_heap (o := .lst []) hD
    have fd2 : Fst (fun n => hasL ps (-n)) id 1 c down := by
      have e : (fun n => hasL ps (-n)) = hasL (mirF ps) := funext fun n => (has_mir ps n).symm
      rw [e]
      exact f3'
    have dl := f3'.len
    have ul := f1.len
    refine lc_list (K := K) (a := d2) (xs := down.map V.int) (NgInv H3 D down) ⟨by rw [e4]; exact s4, by rw [e4]; exact h4⟩ ?_ ?_ ?_
    · rintro i H' _ ⟨sm, _⟩
      exact SqL.of (sm _ _ h3)
    · rintro i x H5 hx ⟨s5, h5⟩
      obtain ⟨hi, rfl⟩ := int_of hx
      have et : ((down.take (i + 1)).map fun n => -n) = ((down.take i).map fun n => -n) ++ [-down[i]] := by
        rw [List.take_succ_eq_append_getElem hi, List.map_append]
        rfl
      generalize down[i] = n at *
      walk_at "rd"
      refine ⟨rfl, i_yes (iteT ?_)⟩
      walk_at "rd"
      refine ⟨_, h5, size_lt (by rw [List.length_map, List.length_map, List.length_take]; omega), ⟨Same.mut s5 hD, ?_⟩⟩
      rw [upd_same, et, List.map_append]
      rfl
    · rintro H5 ⟨s5, h5⟩
      rw [List.length_map, List.take_length] at h5
      walk_at "rd"
      unfold tSl
      walk_at "rd"
      have s15 := same_tr s13 s5
      refine ⟨d1, D, _, _, rfl, rfl, s15 _ _ h1, h5, size_of (by rw [List.length_map, List.length_map, List.length_map]; omega), fun r hr => ?_⟩
      rw [← List.map_append]
      have sam := fun l => sam_of (l := l) f1 fd2
      generalize hL : up ++ down.map (fun n => -n) = L at *
      have hLl : L.length = up.length + down.length := by rw [← hL, List.length_append, List.length_map]
      obtain ⟨H6, e6, s6, h6⟩ := new_heap (o := .lst (L.map V.int)) hr
      rw [e6]
      walk_at "rd"
      refine ⟨r, L.map V.int, L.map (fun n => PyData.int (Spk.place n)), rfl, rfl, .inl (SqL.of h6), by rw [List.length_map, List.length_map], PySem.W.AllAlike.of fun _ _ => by simp [PySem.W.alike], PySem.W.Sortable.others fun _ => ⟨(fun z => nomatch z), fun _ z => nomatch z⟩, fun d hd => ?_, fun i x d hx hk H' sm => ?_, fun H7 p sm hp => ?_⟩
      · obtain ⟨n, _, rfl⟩ := List.mem_map.mp hd
        simp [PyData.depth]
      · obtain ⟨hi, rfl⟩ := int_of hx
        rw [List.getElem?_map, List.getElem?_eq_getElem hi] at hk
        have ed := (Option.some.inj hk).symm
        subst ed
        exact ⟨L[i], rfl, Same.refl _, .int _⟩
      · rw [sorted_place]
        have pm := sort_perm L
        have pw := sort_asc L
        generalize (L.mergeSort fun a b => decide (Spk.place a ≤ Spk.place b)) = S at *
        obtain ⟨H8, e8, s8, h8⟩ := new_heap (o := .lst (S.map V.int)) hp
        rw [e8]
        refine ⟨_, rfl, c, rfl, p, _, rfl, SqL.of h8, fun y hy => ?_⟩
        rw [cut_take, ← List.map_take]
        obtain ⟨H9, e9, s9, h9⟩ := new_heap (o := .lst ((S.take c).map V.int)) hy
        rw [e9]
        have s58 := same_tr s6 (same_tr sm s8)
        have s08 := same_tr s03 (same_tr s5 s58)
        refine q y H9 (S.take c) ?_ (same_tr s08 s9) h9 (sam S pm pw)
        cases e : H y with
        | none => rfl
        | some o =>
          have := s08 _ _ e
          rw [hy] at this
          cases this
end
end Spk

set_option Elab.async false
set_option linter.all false
set_option maxRecDepth 100000
set_option maxHeartbeats 1000000
namespace Spk
open PySem L2
local macro_rules | `(tactic| walk_at "rd") => `(tactic| repeat (first
  | with_reducible refine i_seq ?_ | with_reducible refine i_asg ?_ | with_reducible refine i_ret ?_ | with_reducible refine i_ifS ?_ | with_reducible refine i_if ?_
  | with_reducible refine i_for ?_ | with_reducible refine i_iL ?_ | with_reducible refine i_iT ?_ | with_reducible refine i_ckw ?_ | with_reducible refine i_cm ?_ | with_reducible refine And.intro (rfl : V.ref _ = V.ref _) ?_ | with_reducible refine i_rng1 ?_ | with_reducible refine i_bm ?_ | with_reducible refine i_bm0 ?_
  | with_reducible refine i_drop ?_ | with_reducible refine i_next ?_
  | with_reducible refine i_var rfl ?_ | with_reducible refine i_c ?_ | with_reducible refine i_op ?_ | with_reducible refine i_un ?_ | with_reducible refine i_name ?_
  | with_reducible refine i_rI0 ?_ | with_reducible refine i_rU ?_ | with_reducible refine i_rEq rfl ?_ | with_reducible refine i_rNe rfl ?_
  | with_reducible refine i_test ?_ | with_reducible refine i_tB ?_ | with_reducible refine i_and ?_ | with_reducible refine i_or ?_ | with_reducible refine i_not ?_
  | with_reducible refine i_andV ?_ | with_reducible refine i_orV ?_ | with_reducible refine i_notV ?_
  | with_reducible refine i_cons ?_ | with_reducible refine i_nil ?_ | with_reducible refine i_cb ?_ | with_reducible refine i_call ?_ | with_reducible refine i_bl ?_
  | with_reducible refine i_tup ?_ | with_reducible refine i_lst ?_ | with_reducible refine i_par ?_ | with_reducible refine i_gcons ?_ | with_reducible refine i_gnil ?_
  | with_reducible refine And.intro (rfl : V.non = V.non) ?_ | with_reducible refine i_ixT (by assumption) rfl ?_ | with_reducible refine i_ixL (by assumption) rfl ?_ | with_reducible refine i_gtup (by assumption) rfl ?_
  | with_reducible refine i_gsub ?_
  | with_reducible refine Or.inl (Exists.intro _ (And.intro (rfl : [V.int _] = [V.int _]) ?_)) | with_reducible refine Exists.intro _ (And.intro (rfl : [V.int _] = [V.int _]) ?_)
  | with_reducible refine Or.inr (Exists.intro _ (And.intro (rfl : [V.bl _] = [V.bl _]) ?_))
  | with_reducible refine Exists.intro _ (Exists.intro _ (And.intro (rfl : [V.int _, V.int _] = [V.int _, V.int _]) ?_))
  | with_reducible refine Exists.intro _ (Exists.intro _ (And.intro (rfl : [V.ref _] = [V.ref _]) (And.intro (Or.inl (SqL.of (by assumption))) ?_)))
  | with_reducible refine i_rI (show (0 : Int) < _ by assumption) ?_ | with_reducible refine i_rI (show (0 : Int) < _ by decide) ?_
  | with_reducible refine i_rI (pow_ok (Nat.le_of_ble_eq_true rfl) (Nat.le_of_ble_eq_true rfl)) ?_
  | with_reducible refine i_rI (cmulL rfl) ?_))
section
variable {P : Program} {w : World} {K : PySem.W.Frag} {mg : Str → Option Value} {base : Heap} {C fI fE : Addr} {mc : Value} {pe pb po pf ge gb go gf fO : Addr}
theorem gapAt_len (low first : Option Int) : (gapAt low first).length ≤ 1 := by
  cases first <;> simp [gapAt]
theorem gapsF_len : ∀ (ps : List Stc) (low : Option Int), (gapsF low ps).length ≤ ps.length + 1
  | [], _ => Nat.le_refl _
  | (first, last) :: ps, low => by
    have h1 := gapAt_len low first
    simp only [gapsF, List.length_append, List.length_cons]
    cases last with
    | none =>
      simp only [List.length_nil]
      omega
    | some b =>
      have h2 := gapsF_len ps (some (b + 1))
      dsimp only
      omega
structure GInv (H0 : Hp) (t d : Addr) (ps : List Stc) (i : Nat) (σ : L2.St) (H : Hp) : Prop where
  ex : ∃ (vs : List V) (G : List Stc) (low : Option Int) (x y : Option V), σ = [some (.ref t), some (.ref d), some (ov low), x, y] ∧ Same H0 H ∧ H d = some (.lst vs) ∧ Tups H vs G ∧ gapsF none ps = G ++ gapsF low (ps.drop i) ∧ G.length ≤ i
abbrev s_gaps : Stmt := top 6
theorem sc_gaps : FnScope ["parts", "found", "low", "first", "last"] ["parts"] (defScope s_gaps) := ⟨rfl, rfl, rfl, by decide +kernel, rfl, by decide +kernel, by decide +kernel⟩
def sp_gaps : Sp := fun vs H Q _ => ∃ t ps, vs = [.ref t] ∧ PartsT H t ps ∧ ps.length ≤ 2000 ∧ ∀ p H', Same H H' → PartsT H' p (gapsF none ps) → Q (.ref p) H'
theorem ok_gaps {f : Addr} {fd : FuncData} (F : Fun K "gaps" "gaps" s_gaps f fd) (z_tuple : mg "tuple" = none) : FnOk P w K mg base CX0 1 f fd ["parts"] sp_gaps := by
  refine F.ok sc_gaps (fun vs H Q E h => ?_) (fun cdv A outer s H vs Q E hr h => ?_)
  · obtain ⟨t, ps, rfl, _⟩ := h
    rfl
  · obtain ⟨t, ps, rfl, ⟨us, ht, tu⟩, hz, q⟩ := h
    refine ⟨_, (pss_cons (ps_set (i := 1) sc_gaps.nd rfl (Or.inl rfl) (pe_lst pa_nil))
 (pss_cons (ps_set (i := 2) sc_gaps.nd rfl (Or.inl rfl) pe_non)
 (pss_cons (ps_for PassesOwn.never rfl (pi_tup (pv 0)) (pg_tup (by rfl) (pgs_cons (pg_name (i := 3) sc_gaps.nd rfl (Or.inl rfl)) (pgs_cons (pg_name (i := 4) sc_gaps.nd rfl (Or.inl rfl)) pgs_nil)))
 (C8.pss_cut (ps_if (pt_cmpR op_notN (pv 3) pe_non (nomark _))
 (pss_one (ps_expr (pe_bm PySem.F.plainAttrs_list PySem.F.slot_list_append PySem.F.type_list_append mt_append (pv 1) (pa_cons (pe_tup (pa_cons (pv 2) (pa_cons (pe_op op_sub (pv 3) pe_int) pa_nil))) pa_nil))))
 pss_nil)
 (pss_cons (ps_if (pt_cmpR op_isN (pv 4) pe_non (nomark _))
 (pss_one (ps_ret (pe_callTy call_tuple_of (by rfl) z_tuple (by decide +kernel) (pa_cons (pv 1) pa_nil))))
 pss_nil)
 (pss_one (ps_set (i := 2) sc_gaps.nd rfl (Or.inl rfl) (pe_op op_add (pv 4) pe_int))))))
 (pss_cons (ps_expr (pe_bm PySem.F.plainAttrs_list PySem.F.slot_list_append PySem.F.type_list_append mt_append (pv 1) (pa_cons (pe_tup (pa_cons (pv 2) (pa_cons pe_non pa_nil))) pa_nil)))
 (pss_one (ps_ret (pe_callTy call_tuple_of (by rfl) z_tuple (by decide +kernel) (pa_cons (pv 1) pa_nil)))))))), ?_⟩
    have hlen := tups_len tu
    walk_at "rd"
    refine ⟨Nat.zero_le _, fun d hd0 => ?_⟩
    obtain ⟨H1, e1, s1, hd⟩ := new_heap (o := .lst []) hd0
    rw [e1]
    walk_at "rd"
    refine ⟨t, rfl, ⟨_, SqT.of (s1 _ _ ht)⟩, for_tup (K := K) (a := t) (xs := us) (GInv H t d ps) ⟨[], [], none, none, none, rfl, s1, hd, .nil, rfl, Nat.le_refl _⟩ ?_ ?_ ?_⟩
    · rintro i σ H' _ ⟨vs, G, low, x, y, _, sm, _⟩
      exact SqT.of (sm _ _ ht)
    · rintro i x σ H' hx ⟨vs, G, low, y, z, rfl, sm, hd2, tg, eg, hG⟩
      obtain ⟨hi, c, rfl, hc⟩ := item_of tu hx
      have hc' := sm _ _ hc
      rw [List.drop_eq_getElem_cons hi] at eg
      generalize hs : ps[i] = sx at *
      obtain ⟨first, last⟩ := sx
      dsimp only at hc'
      have gl := tups_len tg
      have g1 := gapAt_len low first
      walk_at "rd"
      refine ⟨fun σ' H' => ∃ (vs2 : List V), σ' = [some (.ref t), some (.ref d), some (ov low), some (ov first), some (ov last)] ∧ Same H H' ∧ H' d = some (.lst vs2) ∧ Tups H' vs2 (G ++ gapAt low first), ?_, ?_⟩
      · walk_at "rd"
        cases first with
        | none =>
          refine ite_nd (fun h => absurd rfl h) (fun _ => ?_)
          walk_at "rd"
          exact ⟨vs, rfl, sm, hd2, by rw [gapAt, List.append_nil]; exact tg⟩
        | some a =>
          refine ite_nd (fun _ => ?_) (fun h => nomatch h)
          walk_at "rd"
          refine i_tyL hd2 ?_
          walk_at "rd"
          refine ⟨size_of (Nat.le_of_ble_eq_true rfl), fun q2 hq2 => ?_⟩
          obtain ⟨H3, e3, s3, h3⟩ := new_heap (o := .tup [ov low, .int (a - 1)]) hq2
          rw [e3]
          walk_at "rd"
          refine i_app (s3 _ _ hd2) (by omega) ?_
          walk_at "rd"
          exact ⟨vs ++ [.ref q2], rfl, Same.mut (fun b o z => s3 _ _ (sm _ _ z)) hd0, upd_same, Tups.mut (tups_snoc (tg.up s3) ⟨q2, rfl, h3⟩) (s3 _ _ hd2)⟩
      · rintro σ' H2 ⟨vs2, rfl, sm2, hd3, tg2⟩
        walk_at "rd"
        cases last with
        | none =>
          refine ite_d (fun _ => ?_) (fun h => absurd rfl h)
          walk_at "rd"
          refine ⟨d, vs2, rfl, .inl ⟨SqL.of hd3, fun p6 hp6 => ?_⟩⟩
          obtain ⟨H6, e6, s6, h6⟩ := new_heap (o := .tup vs2) hp6
          rw [e6]
          refine q p6 H6 (fun b o z => s6 _ _ (sm2 _ _ z)) ⟨vs2, h6, ?_⟩
          rw [eg]
          simp only [gapsF, List.append_nil]
          exact tg2.up s6
        | some b =>
          refine ite_d (fun h => nomatch h) (fun _ => ?_)
          walk_at "rd"
          refine ⟨vs2, G ++ gapAt low first, some (b + 1), _, _, rfl, sm2, hd3, tg2, ?_, ?_⟩
          · rw [eg, List.append_assoc]
            rfl
          · rw [List.length_append]
            omega
    · rintro σ H' ⟨vs, G, low, y, z, rfl, sm, hd2, tg, eg, hG⟩
      have gl := tups_len tg
      rw [hlen, List.drop_length] at eg
      walk_at "rd"
      refine i_tyL hd2 ?_
      walk_at "rd"
      refine ⟨size_of (Nat.le_of_ble_eq_true rfl), fun q2 hq2 => ?_⟩
      obtain ⟨H3, e3, s3, h3⟩ := new_heap (o := .tup [ov low, .non]) hq2
      rw [e3]
      walk_at "rd"
      refine i_app (s3 _ _ hd2) (by omega) ?_
      walk_at "rd"
      refine ⟨d, vs ++ [.ref q2], rfl, .inl ⟨SqL.of upd_same, fun p6 hp6 => ?_⟩⟩
      obtain ⟨H6, e6, s6, h6⟩ := new_heap (o := .tup (vs ++ [.ref q2])) hp6
      rw [e6]
      have sm4 : Same H (upd H3 d (.lst (vs ++ [.ref q2]))) := Same.mut (fun b o z => s3 _ _ (sm _ _ z)) hd0
      refine q p6 H6 (fun b o z => s6 _ _ (sm4 _ _ z)) ⟨_, h6, ?_⟩
      rw [eg]
      exact (Tups.mut (tups_snoc (tg.up s3) ⟨q2, rfl, h3⟩) (s3 _ _ hd2)).up s6
/-! ### a & b, a - b, a.is_within(b) -/
abbrev s_Ranges__and : Stmt := inClass (top 1) 6
theorem sc_Ranges__and : FnScope ["self", "other"] ["self", "other"] (defScope s_Ranges__and) := ⟨rfl, rfl, rfl, by decide +kernel, rfl, by decide +kernel, by decide +kernel⟩
def sp_and (C : Addr) : Sp := fun vs H Q _ => ∃ a b ps qs, vs = [.ref a, .ref b] ∧ Rng C H a ps ∧ Rng C H b qs ∧ ps.length + qs.length ≤ 900 ∧ NewR C H Q (ps.length + qs.length + 3) fun k => hasL ps k && hasL qs k
theorem gaps_canon {ps : List Stc} (h : Canon ps) : Canon (gapsF none ps) := (gaps_ok ps none h fun _ e => nomatch e).canon
/-- the end of both: gaps of the joined parts -/
theorem cut_fin {H : Hp} {fd fdJ fdI : FuncData} {t u : Addr} {us vs : List V} {ps qs : List Stc} {Q : VK} (ht : H t = some (.tup us)) (hu : H u = some (.tup vs)) (tu : Tups H us ps) (tv : Tups H vs qs) (cp : Canon ps) (cq : Canon qs) (hz : ps.length + qs.length ≤ 1000)
    (q : NewR C H Q (ps.length + qs.length + 1) fun k => !(hasL ps k || hasL qs k)) :
    rCatA K (.ref t) (.ref u) H fun x H1 => sp_joined K [x] H1 (fun y H2 => sp_gaps [y] H2 (fun v H2 => ∀ x dx, H2 x = none → H2 dx = none → dx ≠ x → spI C (V.ref x :: [v]) (upd (upd H2 dx (.own x)) x (.ins C dx [])) (fun v H2 => v = .non ∧ Q (.ref x) H2) E0) E0) E0 := by
  have hne : ∀ s, s ∈ ps ++ qs → NE s := fun s hs => (List.mem_append.mp hs).elim (cp.ne s) (cq.ne s)
  have l1 := tups_len tu
  have l2 := tups_len tv
  have fin : ∀ (p : Addr) (H1 : Hp), Same H H1 → H1 p = some (.tup (us ++ vs)) → sp_joined K [.ref p] H1 (fun y H2 => sp_gaps [y] H2 (fun v H2 => ∀ x dx, H2 x = none → H2 dx = none → dx ≠ x → spI C (V.ref x :: [v]) (upd (upd H2 dx (.own x)) x (.ins C dx [])) (fun v H2 => v = .non ∧ Q (.ref x) H2) E0) E0) E0 := by
    intro p H1 s1 hp
    refine ⟨p, us ++ vs, ps ++ qs, rfl, .inr (SqT.of hp), tups_append (tu.up s1) (tv.up s1), by rw [List.length_append]; omega, hne, fun r H2 rs s2 hr hc hm hl => ?_⟩
    rw [List.length_append] at hl
    refine ⟨r, rs, rfl, hr, by omega, fun p3 H3 s3 hp3 => ?_⟩
    refine mk_rng hp3 (gaps_canon hc) fun x H4 s4 hx => ?_
    refine q x H4 _ (fun b o z => s4 _ _ (s3 _ _ (s2 _ _ (s1 _ _ z)))) hx (fun k => by rw [gaps_has hc, hm k, hasL_append]) ?_
    have := gapsF_len rs none
    omega
  refine ⟨t, u, us, vs, rfl, rfl, SqT.of ht, SqT.of hu, size_of (by omega), fun e => ?_, fun _ e => ?_, fun _ _ p hp => ?_⟩
  · subst e
    exact fin u H (Same.refl H) hu
  · subst e
    exact fin t H (Same.refl H) (by rw [List.append_nil]; exact ht)
  · obtain ⟨H1, e1, s1, h1⟩ := new_heap (o := .tup (us ++ vs)) hp
    rw [e1]
    exact fin p H1 s1 h1
theorem ok_and {f fJ fG : Addr} {fd fdI fdJ fdG : FuncData} (F : Fun K "__and__" "Ranges.__and__" s_Ranges__and f fd) (FI : Fun K "__init__" "Ranges.__init__" s_Ranges__init fI fdI) (B_init : Binds K fdI ["self", "parts"] []) (T : ClsT K mg C fI fE)
    (F_joined : Fun K "joined" "joined" s_joined fJ fdJ) (B_joined : Binds K fdJ ["stretches"] []) (g_joined : mg "joined" = some (.ref fJ)) (G_joined : FnOk P w K mg base CX0 4 fJ fdJ ["stretches"] (sp_joined K))
    (F_gaps : Fun K "gaps" "gaps" s_gaps fG fdG) (B_gaps : Binds K fdG ["parts"] []) (g_gaps : mg "gaps" = some (.ref fG)) (z_tuple : mg "tuple" = none) :
    FnOk P w K mg base CX0 5 f fd ["self", "other"] (sp_and C) := by
  have RI : FnR P w K mg base CX0 1 fI (spI C) := FnOk.raw (ok_init FI T) B_init .nil
  have G_gaps : FnOk P w K mg base CX0 1 fG fdG ["parts"] sp_gaps := ok_gaps F_gaps z_tuple
  have M := T.M
  have g_C := T.g_C
  refine F.ok sc_Ranges__and (fun vs H Q E h => ?_) (fun cdv A outer s H vs Q E hr h => ?_)
  · obtain ⟨a, b, ps, qs, rfl, _⟩ := h
    rfl
  · obtain ⟨a, b, ps, qs, rfl, ⟨dx, t, ha, pa, ca⟩, ⟨dy, u, hb, pb, cb⟩, hz, q⟩ := h
    refine ⟨_, (pss_one (ps_ret (StX.pe_makeR M RI (hr.mono (by decide)) rfl g_C pass0 (pa_cons (pe_call G_gaps (hr.mono (by decide)) rfl g_gaps F_gaps.kp B_gaps .nil pass0 (pa_cons (pe_call G_joined (hr.mono (by decide)) rfl g_joined F_joined.kp B_joined .nil pass0 (pa_cons (pe_op op_catA (pe_call G_gaps (hr.mono (by decide)) rfl g_gaps F_gaps.kp B_gaps .nil pass0 (pa_cons (pe_fld (pv 0) rfl) pa_nil)) (pe_call G_gaps (hr.mono (by decide)) rfl g_gaps F_gaps.kp B_gaps .nil pass0 (pa_cons (pe_fld (pv 1) rfl) pa_nil))) pa_nil)) pa_nil)) pa_nil)))), ?_⟩
    unfold StX.tMakeR
    walk_at "rd"
    refine ⟨_, rfl, a, C, dx, _, _, rfl, ha, T.cl, T.nP, lk_parts, ?_⟩
    walk_at "rd"
    refine ⟨t, ps, rfl, pa, by omega, fun p1 H1 s1 ⟨us, h1, t1⟩ => ?_⟩
    walk_at "rd"
    refine ⟨_, rfl, b, C, dy, _, _, rfl, s1 _ _ hb, T.cl, T.nP, lk_parts, ?_⟩
    walk_at "rd"
    refine ⟨u, qs, rfl, pb.up s1, by omega, fun p2 H2 s2 ⟨vs, h2, t2⟩ => ?_⟩
    have z1 := gapsF_len ps none
    have z2 := gapsF_len qs none
    refine cut_fin (fd := fd) (fdJ := fd) (fdI := fd) (s2 _ _ h1) h2 (t1.up s2) t2 (gaps_canon ca) (gaps_canon cb) (by omega) fun r H' rs s3 hr hm hl => ?_
    exact q r H' rs (fun b o z => s3 _ _ (s2 _ _ (s1 _ _ z))) hr (fun k => by rw [hm k]; simp only [gaps_has ca, gaps_has cb, Bool.not_or, Bool.not_not]) (by omega)
abbrev s_Ranges__sub : Stmt := inClass (top 1) 7
theorem sc_Ranges__sub : FnScope ["self", "other"] ["self", "other"] (defScope s_Ranges__sub) := ⟨rfl, rfl, rfl, by decide +kernel, rfl, by decide +kernel, by decide +kernel⟩
def sp_sub (C : Addr) : Sp := fun vs H Q _ => ∃ a b ps qs, vs = [.ref a, .ref b] ∧ Rng C H a ps ∧ Rng C H b qs ∧ ps.length + qs.length ≤ 900 ∧ NewR C H Q (ps.length + qs.length + 2) fun k => hasL ps k && !hasL qs k
theorem ok_sub {f fJ fG : Addr} {fd fdI fdJ fdG : FuncData} (F : Fun K "__sub__" "Ranges.__sub__" s_Ranges__sub f fd) (FI : Fun K "__init__" "Ranges.__init__" s_Ranges__init fI fdI) (B_init : Binds K fdI ["self", "parts"] []) (T : ClsT K mg C fI fE)
    (F_joined : Fun K "joined" "joined" s_joined fJ fdJ) (B_joined : Binds K fdJ ["stretches"] []) (g_joined : mg "joined" = some (.ref fJ)) (G_joined : FnOk P w K mg base CX0 4 fJ fdJ ["stretches"] (sp_joined K))
    (F_gaps : Fun K "gaps" "gaps" s_gaps fG fdG) (B_gaps : Binds K fdG ["parts"] []) (g_gaps : mg "gaps" = some (.ref fG)) (z_tuple : mg "tuple" = none) :
    FnOk P w K mg base CX0 5 f fd ["self", "other"] (sp_sub C) := by
  have RI : FnR P w K mg base CX0 1 fI (spI C) := FnOk.raw (ok_init FI T) B_init .nil
  have G_gaps : FnOk P w K mg base CX0 1 fG fdG ["parts"] sp_gaps := ok_gaps F_gaps z_tuple
  have M := T.M
  have g_C := T.g_C
  refine F.ok sc_Ranges__sub (fun vs H Q E h => ?_) (fun cdv A outer s H vs Q E hr h => ?_)
  · obtain ⟨a, b, ps, qs, rfl, _⟩ := h
    rfl
  · obtain ⟨a, b, ps, qs, rfl, ⟨dx, t, ha, pa, ca⟩, ⟨dy, u, hb, ⟨vs, hu, tv⟩, cb⟩, hz, q⟩ := h
    refine ⟨_, (pss_one (ps_ret (StX.pe_makeR M RI (hr.mono (by decide)) rfl g_C pass0 (pa_cons (pe_call G_gaps (hr.mono (by decide)) rfl g_gaps F_gaps.kp B_gaps .nil pass0 (pa_cons (pe_call G_joined (hr.mono (by decide)) rfl g_joined F_joined.kp B_joined .nil pass0 (pa_cons (pe_op op_catA (pe_call G_gaps (hr.mono (by decide)) rfl g_gaps F_gaps.kp B_gaps .nil pass0 (pa_cons (pe_fld (pv 0) rfl) pa_nil)) (pe_fld (pv 1) rfl)) pa_nil)) pa_nil)) pa_nil)))), ?_⟩
    unfold StX.tMakeR
    walk_at "rd"
    refine ⟨_, rfl, a, C, dx, _, _, rfl, ha, T.cl, T.nP, lk_parts, ?_⟩
    walk_at "rd"
    refine ⟨t, ps, rfl, pa, by omega, fun p1 H1 s1 ⟨us, h1, t1⟩ => ?_⟩
    refine ⟨_, rfl, b, C, dy, _, _, rfl, s1 _ _ hb, T.cl, T.nP, lk_parts, ?_⟩
    have z1 := gapsF_len ps none
    refine cut_fin (fd := fd) (fdJ := fd) (fdI := fd) h1 (s1 _ _ hu) t1 (tv.up s1) (gaps_canon ca) cb (by omega) fun r H' rs s3 hr hm hl => ?_
    exact q r H' rs (fun b o z => s3 _ _ (s1 _ _ z)) hr (fun k => by rw [hm k]; simp only [gaps_has ca, Bool.not_or, Bool.not_not]) (by omega)
/-- what the text says of the class's other operators -/
structure ClsN (K : PySem.W.Frag) (C fA fS fW fM : Addr) : Prop where
  andF : PySem.W.findIn K (.ref C) "__and__" = some (some (.ref fA))
  andI : PySem.W.isFn K (.ref fA) = true
  subF : PySem.W.findIn K (.ref C) "__sub__" = some (some (.ref fS))
  subI : PySem.W.isFn K (.ref fS) = true
  is_within : Meth K C "is_within" fW
  sample : Meth K C "sample" fM
abbrev s_Ranges_is_within : Stmt := inClass (top 1) 11
theorem sc_Ranges_is_within : FnScope ["self", "b"] ["self", "b"] (defScope s_Ranges_is_within) := ⟨rfl, rfl, rfl, by decide +kernel, rfl, by decide +kernel, by decide +kernel⟩
def sp_within (C : Addr) : Sp := fun vs H Q _ => ∃ a b ps qs, vs = [.ref a, .ref b] ∧ Rng C H a ps ∧ Rng C H b qs ∧ ps.length + qs.length ≤ 900 ∧ ∀ k H', Same H H' → (k = true ↔ ∀ n, hasL ps n = true → hasL qs n = true) → Q (.bl k) H'
theorem ok_within {fA fS fW fM fN fB : Addr} {fd : FuncData} (F : Fun K "is_within" "Ranges.is_within" s_Ranges_is_within fW fd) (T : ClsT K mg C fI fE) (CM : ClsM K C mc pe pb po pf ge gb go gf fO) (CN : ClsN K C fA fS fW fM) (CK : ClsK K C fN fB)
    (R_sub : FnR P w K mg base CX0 5 fS (fun vs H Q E => sp_sub C (vs ++ []) H Q E)) (R_bool : FnR P w K mg base CX0 1 fB (fun vs H Q E => sp_bool C (vs ++ []) H Q E)) :
    FnOk P w K mg base CX0 6 fW fd ["self", "b"] (sp_within C) := by
  refine F.ok sc_Ranges_is_within (fun vs H Q E h => ?_) (fun cdv A outer s H vs Q E hr h => ?_)
  · obtain ⟨a, b, ps, qs, rfl, _⟩ := h
    rfl
  · obtain ⟨a, b, ps, qs, rfl, ra, rb, hz, q⟩ := h
    refine ⟨_, (pss_one (ps_ret (pe_notO R_bool (hr.mono (by decide)) CK.boF CK.boI (pe_op (op_own (op := .Sub) R_sub (hr.mono (by decide)) CM.self CN.subF CN.subI) (pv 0) (pv 1))))), ?_⟩
    obtain ⟨dx, t, ha, _⟩ := id ra
    obtain ⟨dy, u, hb, _⟩ := id rb
    unfold tNotO
    walk_at "rd"
    refine ⟨a, b, _, _, _, _, rfl, rfl, ha, hb, a, b, ps, qs, rfl, ra, rb, hz, fun r H1 rs s1 hr1 hm hl => ?_⟩
    obtain ⟨dz, v, hr2, _⟩ := id hr1
    refine ⟨r, dz, _, rfl, hr2, r, rs, rfl, hr1, _, rfl, ?_⟩
    refine q _ H1 s1 ?_
    rw [Bool.not_not]
    cases rs with
    | nil =>
      refine ⟨fun _ n hn => ?_, fun _ => rfl⟩
      have h3 := hm n
      simp only [hasL_nil, hn, Bool.true_and] at h3
      cases e : hasL qs n with
      | true => rfl
      | false => rw [e] at h3; cases h3
    | cons s rs =>
      refine Iff.intro (fun z => nomatch z) (fun al => ?_)
      obtain ⟨n, hn⟩ := ne_has (hr1.canon.ne s (by simp))
      have h3 := hm n
      rw [hasL_cons, hn, Bool.true_or] at h3
      have h2 := Bool.and_eq_true_iff.mp h3.symm
      rw [al n h2.1] at h2
      exact absurd h2.2 (by decide)
end
end Spk

set_option Elab.async false
set_option linter.all false
set_option maxRecDepth 100000
set_option maxHeartbeats 1000000
namespace Spk
open PySem L2
local macro_rules | `(tactic| walk_at "rd") => `(tactic| repeat (first
  | with_reducible refine i_seq ?_ | with_reducible refine i_asg ?_ | with_reducible refine i_ret ?_ | with_reducible refine i_ifS ?_ | with_reducible refine i_if ?_
  | with_reducible refine i_for ?_ | with_reducible refine i_iL ?_ | with_reducible refine i_iT ?_ | with_reducible refine i_ckw ?_ | with_reducible refine i_cm ?_ | with_reducible refine And.intro (rfl : V.ref _ = V.ref _) ?_ | with_reducible refine i_rng1 ?_ | with_reducible refine i_bm ?_ | with_reducible refine i_bm0 ?_
  | with_reducible refine i_drop ?_ | with_reducible refine i_next ?_
  | with_reducible refine i_var rfl ?_ | with_reducible refine i_c ?_ | with_reducible refine i_op ?_ | with_reducible refine i_un ?_ | with_reducible refine i_name ?_
  | with_reducible refine i_rI0 ?_ | with_reducible refine i_rU ?_ | with_reducible refine i_rEq rfl ?_ | with_reducible refine i_rNe rfl ?_
  | with_reducible refine i_test ?_ | with_reducible refine i_tB ?_ | with_reducible refine i_and ?_ | with_reducible refine i_or ?_ | with_reducible refine i_not ?_
  | with_reducible refine i_andV ?_ | with_reducible refine i_orV ?_ | with_reducible refine i_notV ?_
  | with_reducible refine i_cons ?_ | with_reducible refine i_nil ?_ | with_reducible refine i_cb ?_ | with_reducible refine i_call ?_ | with_reducible refine i_bl ?_
  | with_reducible refine i_tup ?_ | with_reducible refine i_lst ?_ | with_reducible refine i_par ?_ | with_reducible refine i_gcons ?_ | with_reducible refine i_gnil ?_
  | with_reducible refine And.intro (rfl : V.non = V.non) ?_ | with_reducible refine i_ixT (by assumption) rfl ?_ | with_reducible refine i_ixL (by assumption) rfl ?_ | with_reducible refine i_gtup (by assumption) rfl ?_
  | with_reducible refine i_gsub ?_
  | with_reducible refine Or.inl (Exists.intro _ (And.intro (rfl : [V.int _] = [V.int _]) ?_)) | with_reducible refine Exists.intro _ (And.intro (rfl : [V.int _] = [V.int _]) ?_)
  | with_reducible refine Or.inr (Exists.intro _ (And.intro (rfl : [V.bl _] = [V.bl _]) ?_))
  | with_reducible refine Exists.intro _ (Exists.intro _ (And.intro (rfl : [V.int _, V.int _] = [V.int _, V.int _]) ?_))
  | with_reducible refine Exists.intro _ (Exists.intro _ (And.intro (rfl : [V.ref _] = [V.ref _]) (And.intro (Or.inl (SqL.of (by assumption))) ?_)))
  | with_reducible refine i_rI (show (0 : Int) < _ by assumption) ?_ | with_reducible refine i_rI (show (0 : Int) < _ by decide) ?_
  | with_reducible refine i_rI (pow_ok (Nat.le_of_ble_eq_true rfl) (Nat.le_of_ble_eq_true rfl)) ?_
  | with_reducible refine i_rI (cmulL rfl) ?_))
section
variable {P : Program} {w : World} {K : PySem.W.Frag} {mg : Str → Option Value} {base : Heap} {C fI fE : Addr} {mc : Value} {pe pb po pf ge gb go gf fO fA fS fW fM fN fB : Addr}
theorem self_nf : PySem.W.notFirst K C (.ref C) = true := by simp [PySem.W.notFirst]
theorem lk_none {t : Addr} : ([("parts", V.ref t)] : List (Str × V)).lookup ("is_within" : Str) = none := by
  show (match (("is_within" : Str) == "parts") with | true => some (V.ref t) | false => none) = none
  rw [show (("is_within" : Str) == "parts") = false by decide +kernel]
/-! ### expressions that tell sets -/
/-- the value is a set with the integers that g tells, of at most n parts -/
def Ev (C : Addr) (te : TE) (σ : L2.St) (H0 : Hp) (g : Int → Bool) (n : Nat) : Prop := ∀ (H : Hp), Same H0 H → ∀ Q : VK, (∀ r H' ps, Same H H' → Rng C H' r ps → (∀ k, hasL ps k = g k) → ps.length ≤ n → Q (.ref r) H') → te σ H Q
abbrev mOr (C : Addr) : Sp := fun vs H Q E => sp_or C (vs ++ []) H Q E
abbrev mAnd (C : Addr) : Sp := fun vs H Q E => sp_and C (vs ++ []) H Q E
abbrev mSub (C : Addr) : Sp := fun vs H Q E => sp_sub C (vs ++ []) H Q E
abbrev mEq (C : Addr) : Sp := fun vs H Q E => sp_eq C (vs ++ []) H Q E
abbrev mWi (C : Addr) : Sp := fun vs H Q E => sp_within C (vs ++ []) H Q E
section
variable {σ : L2.St} {H0 : Hp} {ta tb : TE} {g h : Int → Bool} {n m : Nat}
theorem ev_var {i : Nat} {r : Addr} {ps : List Stc} (e : σ[i]? = some (some (.ref r))) (hr : Rng C H0 r ps) (hz : ps.length ≤ n) : Ev C (tVar i) σ H0 (hasL ps) n := fun H sm Q q => ⟨_, e, q r H ps (Same.refl H) (hr.up sm) (fun _ => rfl) hz⟩
theorem ev_bin {sp : Sp} {f : Bool → Bool → Bool} {d : Nat} (a : Ev C ta σ H0 g n) (b : Ev C tb σ H0 h m) (z : n + m ≤ 900)
    (hs : ∀ r1 r2 ps qs H Q, Rng C H r1 ps → Rng C H r2 qs → ps.length + qs.length ≤ 900 → NewR C H Q (ps.length + qs.length + d) (fun k => f (hasL ps k) (hasL qs k)) → sp [.ref r1, .ref r2] H Q E0) :
    Ev C (tOp (rBin C sp) ta tb) σ H0 (fun k => f (g k) (h k)) (n + m + d) := fun H sm Q q => by
  refine i_op (a H sm _ fun r1 H1 ps s1 hr1 hm1 hz1 => b H1 (fun b o z => s1 _ _ (sm _ _ z)) _ fun r2 H2 qs s2 hr2 hm2 hz2 => ?_)
  obtain ⟨dx, t, a1, _⟩ := id hr1
  obtain ⟨dy, u, b1, _⟩ := id hr2
  refine ⟨r1, r2, _, _, _, _, rfl, rfl, s2 _ _ a1, b1, hs r1 r2 ps qs H2 Q (hr1.up s2) hr2 (by omega) fun u H3 us s3 hu hm hz => ?_⟩
  exact q u H3 us (fun b o z => s3 _ _ (s2 _ _ (s1 _ _ z))) hu (fun k => by rw [hm k]; simp only [hm1 k, hm2 k]) (by omega)
theorem ev_or (a : Ev C ta σ H0 g n) (b : Ev C tb σ H0 h m) (z : n + m ≤ 900) : Ev C (tOp (rBin C (mOr C)) ta tb) σ H0 (fun k => g k || h k) (n + m + 0) :=
  ev_bin (f := fun x y => x || y) a b z fun r1 r2 ps qs H Q h1 h2 hz q => ⟨r1, r2, ps, qs, rfl, h1, h2, by omega, q⟩
theorem ev_and (a : Ev C ta σ H0 g n) (b : Ev C tb σ H0 h m) (z : n + m ≤ 900) : Ev C (tOp (rBin C (mAnd C)) ta tb) σ H0 (fun k => g k && h k) (n + m + 3) :=
  ev_bin (f := fun x y => x && y) a b z fun r1 r2 ps qs H Q h1 h2 hz q => ⟨r1, r2, ps, qs, rfl, h1, h2, hz, q⟩
theorem ev_sub (a : Ev C ta σ H0 g n) (b : Ev C tb σ H0 h m) (z : n + m ≤ 900) : Ev C (tOp (rBin C (mSub C)) ta tb) σ H0 (fun k => g k && !h k) (n + m + 2) :=
  ev_bin (f := fun x y => x && !y) a b z fun r1 r2 ps qs H Q h1 h2 hz q => ⟨r1, r2, ps, qs, rfl, h1, h2, hz, q⟩
/-- both are the same set: != says False -/
theorem ev_ne {H : Hp} (T : ClsT K mg C fI fE) (a : Ev C ta σ H0 g n) (b : Ev C tb σ H0 h m) (e : ∀ k, g k = h k) (sm : Same H0 H) {R : Bool → Hp → Prop} (q : ∀ H', Same H0 H' → R false H') : tTest (tOp (rNeO K C (mEq C)) ta tb) σ H R := by
  refine i_test (i_op (a H sm _ fun r1 H1 ps s1 hr1 hm1 hz1 => b H1 (same_tr sm s1) _ fun r2 H2 qs s2 hr2 hm2 hz2 => ?_))
  have e2 : ps = qs := canon_unique hr1.canon hr2.canon fun k => by rw [hm1 k, hm2 k, e k]
  subst e2
  have hr1' := hr1.up s2
  obtain ⟨dx, t, a1, _⟩ := id hr1'
  refine ⟨r1, dx, _, _, rfl, a1, hr2.ty T, self_nf, r1, _, ps, _, rfl, hr1', .inl ⟨r2, ps, rfl, hr2, rfl⟩, _, rfl, _, rfl, ?_⟩
  rw [decide_eq_true rfl]
  exact q H2 (same_tr sm (same_tr s1 s2))
/-- a.is_within(b) -/
theorem ev_wi {H : Hp} (a : Ev C ta σ H0 g n) (b : Ev C tb σ H0 h m) (z : n + m ≤ 900) (e : ∀ k, g k = true → h k = true) (sm : Same H0 H) {R : Bool → Hp → Prop} (q : ∀ H', Same H0 H' → R true H') : tTest (tMethR C "is_within" (mWi C) E0 ta (tCons tb tNil)) σ H R := by
  refine i_test (a H sm _ fun r1 H1 ps s1 hr1 hm1 hz1 => ?_)
  obtain ⟨dx, t, a1, _⟩ := id hr1
  refine ⟨r1, dx, _, rfl, a1, lk_none, i_cons (b H1 (same_tr sm s1) _ fun r2 H2 qs s2 hr2 hm2 hz2 => ?_)⟩
  refine ⟨r1, r2, ps, qs, rfl, hr1.up s2, hr2, by omega, fun k H3 s3 hk => ?_⟩
  have ek : k = true := hk.mpr fun n hn => by rw [hm2 n]; exact e n (by rw [← hm1 n]; exact hn)
  subst ek
  exact ⟨true, rfl, q H3 (same_tr sm (same_tr s1 (same_tr s2 s3)))⟩
abbrev mEmpty (C : Addr) : Sp := fun vs H Q E => sp_empty C (vs ++ []) H Q E
abbrev mFull (C : Addr) : Sp := fun vs H Q E => sp_full C (vs ++ []) H Q E
theorem ev_empty {σ : L2.St} {H0 : Hp} : Ev C (ClX.tCMeth C (mEmpty C) E0 (tC (.ref C)) tNil) σ H0 (fun _ => false) 0 := fun H sm Q q => ⟨rfl, rfl, fun r H' s hr => q r H' [] s hr (fun _ => rfl) (Nat.le_refl _)⟩
theorem ev_full {σ : L2.St} {H0 : Hp} : Ev C (ClX.tCMeth C (mFull C) E0 (tC (.ref C)) tNil) σ H0 (fun _ => true) 1 := fun H sm Q q => ⟨rfl, rfl, fun r H' s hr => q r H' [(none, none)] s hr (fun _ => by simp [hasL, has1]) (Nat.le_refl _)⟩
end
abbrev mSam (C : Addr) : Sp := fun vs H Q E => sp_sample C (vs ++ []) H Q E
theorem lk_sample {t : Addr} : ([("parts", V.ref t)] : List (Str × V)).lookup ("sample" : Str) = none := by
  show (match (("sample" : Str) == "parts") with | true => some (V.ref t) | false => none) = none
  rw [show (("sample" : Str) == "parts") = false by decide +kernel]
section
variable {σ : L2.St} {H0 : Hp} {ta tb : TE} {g h : Int → Bool} {n m : Nat}
theorem ev_eqV {H : Hp} (T : ClsT K mg C fI fE) (a : Ev C ta σ H0 g n) (b : Ev C tb σ H0 h m) (sm : Same H0 H) {Q : VK} (q : ∀ (c : Bool) H', (c = true ↔ ∀ k, g k = h k) → Same H0 H' → Q (.bl c) H') : tOp (rEqO K C (mEq C)) ta tb σ H Q := by
  refine i_op (a H sm _ fun r1 H1 ps s1 hr1 hm1 hz1 => b H1 (same_tr sm s1) _ fun r2 H2 qs s2 hr2 hm2 hz2 => ?_)
  have hr1' := hr1.up s2
  obtain ⟨dx, t, a1, _⟩ := id hr1'
  refine ⟨r1, dx, _, _, rfl, a1, hr2.ty T, self_nf, r1, _, ps, _, rfl, hr1', .inl ⟨r2, qs, rfl, hr2, rfl⟩, _, rfl, ?_⟩
  refine q _ H2 ?_ (same_tr sm (same_tr s1 s2))
  rw [decide_eq_true_eq]
  exact ⟨fun e k => by rw [← hm1 k, ← hm2 k, e], fun e => canon_unique hr1.canon hr2.canon fun k => by rw [hm1 k, hm2 k, e k]⟩
theorem ev_neV {H : Hp} (T : ClsT K mg C fI fE) (a : Ev C ta σ H0 g n) (b : Ev C tb σ H0 h m) (sm : Same H0 H) {Q : VK} (q : ∀ (c : Bool) H', (c = false ↔ ∀ k, g k = h k) → Same H0 H' → Q (.bl c) H') : tOp (rNeO K C (mEq C)) ta tb σ H Q := by
  refine i_op (a H sm _ fun r1 H1 ps s1 hr1 hm1 hz1 => b H1 (same_tr sm s1) _ fun r2 H2 qs s2 hr2 hm2 hz2 => ?_)
  have hr1' := hr1.up s2
  obtain ⟨dx, t, a1, _⟩ := id hr1'
  refine ⟨r1, dx, _, _, rfl, a1, hr2.ty T, self_nf, r1, _, ps, _, rfl, hr1', .inl ⟨r2, qs, rfl, hr2, rfl⟩, _, rfl, ?_⟩
  refine q _ H2 ?_ (same_tr sm (same_tr s1 s2))
  rw [Bool.not_eq_false', decide_eq_true_eq]
  exact ⟨fun e k => by rw [← hm1 k, ← hm2 k, e], fun e => canon_unique hr1.canon hr2.canon fun k => by rw [hm1 k, hm2 k, e k]⟩
theorem ev_wiV {H : Hp} (a : Ev C ta σ H0 g n) (b : Ev C tb σ H0 h m) (z : n + m ≤ 900) (sm : Same H0 H) {Q : VK} (q : ∀ (c : Bool) H', (c = true ↔ ∀ k, g k = true → h k = true) → Same H0 H' → Q (.bl c) H') : tMethR C "is_within" (mWi C) E0 ta (tCons tb tNil) σ H Q := by
  refine a H sm _ fun r1 H1 ps s1 hr1 hm1 hz1 => ?_
  obtain ⟨dx, t, a1, _⟩ := id hr1
  refine ⟨r1, dx, _, rfl, a1, lk_none, i_cons (b H1 (same_tr sm s1) _ fun r2 H2 qs s2 hr2 hm2 hz2 => ?_)⟩
  refine ⟨r1, r2, ps, qs, rfl, hr1.up s2, hr2, by omega, fun k H3 s3 hk => q k H3 ?_ (same_tr sm (same_tr s1 (same_tr s2 s3)))⟩
  rw [hk]
  exact ⟨fun e k hg => by rw [← hm2 k]; exact e k (by rw [hm1 k]; exact hg), fun e k hg => by rw [hm2 k]; exact e k (by rw [← hm1 k]; exact hg)⟩
end
/-! ### _law_is_like -/
abbrev s_is_like : Stmt := top 21
theorem sc_is_like : FnScope ["_law_one", "_law_other"] ["_law_one", "_law_other"] (defScope s_is_like) := ⟨rfl, rfl, rfl, by decide +kernel, rfl, by decide +kernel, by decide +kernel⟩
def sp_is_like (C : Addr) : Sp := fun vs H Q _ => ∃ a b ps, vs = [.ref a, .ref b] ∧ Rng C H a ps ∧ Rng C H b ps ∧ ps.length ≤ 400 ∧ ∀ H', Same H H' → Q (.bl true) H'
theorem ok_is_like {f : Addr} {fd : FuncData} (F : Fun K "_law_is_like" "_law_is_like" s_is_like f fd) (T : ClsT K mg C fI fE) (CN : ClsN K C fA fS fW fM) (R : ClsR P w K mg base C ge gb go gf fO fE) (R_is_within : FnR P w K mg base CX0 6 fW (mWi C)) :
    FnOk P w K mg base CX0 7 f fd ["_law_one", "_law_other"] (sp_is_like C) := by
  have R_eq := R.eq
  refine F.ok sc_is_like (fun vs H Q E h => ?_) (fun cdv A outer s H vs Q E hr h => ?_)
  · obtain ⟨a, b, ps, rfl, _⟩ := h
    rfl
  · obtain ⟨a, b, ps, rfl, ra, rb, hz, q⟩ := h
    refine ⟨_, (pss_one (ps_ret (pe_and (pe_cmpR (op_eqO R_eq (hr.mono (by decide)) T.eq.eq T.eq.fn) (pv 0) (pv 1) (nomark _)) (pe_and (pe_methR (pv 0) T.cl CN.is_within R_is_within (hr.mono (by decide)) pass0 (pa_cons (pv 1) pa_nil)) (pe_and (pe_methR (pv 1) T.cl CN.is_within R_is_within (hr.mono (by decide)) pass0 (pa_cons (pv 0) pa_nil)) (pe_one (pe_cmpR (op_eqD hr.units) (pe_fld (pv 0) rfl) (pe_fld (pv 1) rfl) (nomark _)))))))), ?_⟩
    have EA : Ev C (tVar 0) (L2.start ["_law_one", "_law_other"] [.ref a, .ref b]) H (hasL ps) 400 := ev_var rfl ra hz
    have EB : Ev C (tVar 1) (L2.start ["_law_one", "_law_other"] [.ref a, .ref b]) H (hasL ps) 400 := ev_var rfl rb hz
    refine i_ret (i_andV (ev_eqV T EA EB (Same.refl _) fun c H1 hc s1 => ⟨c, rfl, ?_⟩))
    have ec : c = true := hc.mpr fun _ => rfl
    subst ec
    refine iteT (i_andV (ev_wiV EA EB (by decide) s1 fun c H2 hc s2 => ⟨c, rfl, ?_⟩))
    have ec : c = true := hc.mpr fun _ h => h
    subst ec
    refine iteT (i_andV (ev_wiV EB EA (by decide) s2 fun c H3 hc s3 => ⟨c, rfl, ?_⟩))
    have ec : c = true := hc.mpr fun _ h => h
    subst ec
    refine iteT ?_
    obtain ⟨dx, t, i1, p1, _⟩ := ra.up s3
    obtain ⟨dy, u, i2, p2, _⟩ := rb.up s3
    walk_at "rd"
    refine ⟨_, rfl, a, C, dx, _, _, rfl, i1, T.cl, T.nP, lk_parts, ?_⟩
    refine ⟨_, rfl, b, C, dy, _, _, rfl, i2, T.cl, T.nP, lk_parts, ?_⟩
    refine ⟨psD ps, psD ps, dp_parts p1, dp_parts p2, shaped_ps ps, shaped_ps ps, ?_⟩
    rw [eqv_psD, decide_eq_true rfl]
    exact q H3 s3
/-! ### _law_of_list -/
structure OlInv (C : Addr) (H0 : Hp) (l : Addr) (ns : List Int) (i : Nat) (σ : L2.St) (H : Hp) : Prop where
  ex : ∃ (r : Addr) (ps : List Stc) (x2 : Option V), σ = [some (.ref l), some (.ref r), x2] ∧ Same H0 H ∧ Rng C H r ps ∧ (∀ k, hasL ps k = (ns.take i).contains k) ∧ ps.length ≤ i
abbrev s_of_list : Stmt := top 18
theorem sc_of_list : FnScope ["_law_numbers", "_law_found", "_law_number"] ["_law_numbers"] (defScope s_of_list) := ⟨rfl, rfl, rfl, by decide +kernel, rfl, by decide +kernel, by decide +kernel⟩
def sp_of_list (C : Addr) : Sp := fun vs H Q _ => ∃ l, ∃ ns : List Int, vs = [.ref l] ∧ H l = some (.lst (ns.map V.int)) ∧ ns.length ≤ 400 ∧ ∀ r H' ps, Same H H' → Rng C H' r ps → (∀ k, hasL ps k = ns.contains k) → ps.length ≤ ns.length → Q (.ref r) H'
theorem int_of2 {ns : List Int} {i : Nat} {x : V} (hx : (ns.map V.int)[i]? = some x) : ∃ (hi : i < ns.length), x = .int ns[i] := int_of hx
theorem ok_of_list {f : Addr} {fd : FuncData} (F : Fun K "_law_of_list" "_law_of_list" s_of_list f fd) (CM : ClsM K C mc pe pb po pf ge gb go gf fO) (R : ClsR P w K mg base C ge gb go gf fO fE) (g_C : mg "Ranges" = some (.ref C)) :
    FnOk P w K mg base CX0 6 f fd ["_law_numbers"] (sp_of_list C) := by
  have R_empty := R.empty
  have R_of := R.of
  have R_or := R.or
  refine F.ok sc_of_list (fun vs H Q E h => ?_) (fun cdv A outer s H vs Q E hr h => ?_)
  · obtain ⟨l, ns, rfl, _⟩ := h
    rfl
  · obtain ⟨l, ns, rfl, hl, hz, q⟩ := h
    refine ⟨_, (pss_cons (ps_set (i := 1) sc_of_list.nd rfl (Or.inl rfl) (pe_cmeth0 (pe_glob rfl g_C (relR _)) CM.rd CM.empty R_empty (hr.mono (by decide)) pass0))
 (pss_cons (ps_for PassesOwn.never rfl (pi_list (pv 0)) (pg_name (i := 2) sc_of_list.nd rfl (Or.inl rfl))
 (pss_one (ps_set (i := 1) sc_of_list.nd rfl (Or.inl rfl) (pe_op (op_own (op := .BitOr) R_or (hr.mono (by decide)) CM.self CM.orF CM.orI) (pv 1) (ClX.pe_cmeth (pe_glob rfl g_C (relR _)) CM.rd CM.of R_of (hr.mono (by decide)) pass0 (pa_cons (pv 2) pa_nil))))))
 (pss_one (ps_ret (pv 1))))), ?_⟩
    walk_at "rd"
    refine ⟨rfl, fun r H1 s1 hr1 => ?_⟩
    walk_at "rd"
    refine ⟨l, rfl, ⟨_, SqL.of (s1 _ _ hl)⟩, for_list (K := K) (a := l) (xs := ns.map V.int) (OlInv C H l ns) ⟨r, [], none, rfl, s1, hr1, fun k => rfl, Nat.le_refl _⟩ ?_ ?_ ?_⟩
    · rintro i σ H' _ ⟨_, _, _, _, sm, _⟩
      exact SqL.of (sm _ _ hl)
    · rintro i x σ H2 hx ⟨r2, ps, x2, rfl, s2, hr2, hm2, hz2⟩
      obtain ⟨hi, rfl⟩ := int_of hx
      have et : ∀ k, (ns.take (i + 1)).contains k = ((ns.take i).contains k || ([ns[i]] : List Int).contains k) := fun k => by
        rw [List.take_succ_eq_append_getElem hi, List.contains_append]
      generalize ns[i] = n at *
      walk_at "rd"
      refine ⟨[n], rfl, by simp, fun o H3 qs s3 ho hm3 hz3 => ?_⟩
      have hr3 := hr2.up s3
      obtain ⟨dx, t, i1, _⟩ := id hr3
      obtain ⟨dy, u, i2, _⟩ := id ho
      simp only [List.length_cons, List.length_nil] at hz3
      walk_at "rd"
      refine ⟨r2, o, _, _, _, _, rfl, rfl, i1, i2, r2, o, ps, qs, rfl, hr3, ho, by omega, fun v H4 vs s4 hv hm4 hz4 => ?_⟩
      walk_at "rd"
      refine ⟨v, vs, _, rfl, same_tr s2 (same_tr s3 s4), hv, fun k => ?_, by omega⟩
      rw [hm4 k, et k]
      simp only [hm2 k, hm3 k]
      congr 1
      rw [Bool.eq_iff_iff]
      simp [singles, hasL, has1]
      omega
    · rintro σ H2 ⟨r2, ps, x2, rfl, s2, hr2, hm2, hz2⟩
      walk_at "rd"
      rw [List.length_map] at hm2 hz2
      rw [List.take_length] at hm2
      exact q r2 H2 ps s2 hr2 hm2 hz2
/-! ### _law_inner -/
abbrev s_inner : Stmt := top 20
theorem sc_inner : FnScope ["_law_parts", "_law_low", "_law_high"] ["_law_parts"] (defScope s_inner) := ⟨rfl, rfl, rfl, by decide +kernel, rfl, by decide +kernel, by decide +kernel⟩
def sp_inner : Sp := fun vs H Q _ => ∃ t ps, vs = [.ref t] ∧ PartsT H t ps ∧ Canon ps ∧ ps ≠ [] ∧ ∀ n : Int, hasL ps n = true → Q (.int n) H
theorem ok_inner {f : Addr} {fd : FuncData} (F : Fun K "_law_inner" "_law_inner" s_inner f fd) : FnOk P w K mg base CX0 1 f fd ["_law_parts"] sp_inner := by
  refine F.ok sc_inner (fun vs H Q E h => ?_) (fun cdv A outer s H vs Q E hr h => ?_)
  · obtain ⟨t, ps, rfl, _⟩ := h
    rfl
  · obtain ⟨t, ps, rfl, ⟨us, ht, tu⟩, hc, hne, q⟩ := h
    refine ⟨_, (pss_cons (ps_asg (pe_ix ix_tup (pv 0) pe_int (fun _ _ => rfl)) (pg_tup (by rfl) (pgs_cons (pg_name (i := 1) sc_inner.nd rfl (Or.inl rfl)) (pgs_cons (pg_name (i := 2) sc_inner.nd rfl (Or.inl rfl)) pgs_nil))))
 (pss_cons (ps_if (pt_cmpR op_notN (pv 1) pe_non (nomark _))
 (pss_one (ps_ret (pv 1)))
 pss_nil)
 (pss_one (ps_ret (pe_ifExp (pt_cmpR op_isN (pv 2) pe_non (nomark _)) pe_int (pv 2)))))), ?_⟩
    obtain ⟨sx, rest, rfl⟩ := List.exists_cons_of_ne_nil hne
    obtain ⟨v, hv, c, rfl, hcc⟩ := tups_get tu (i := 0) (by simp)
    have hn := hc.ne sx (by simp)
    simp only [List.getElem_cons_zero] at hcc
    have fin : ∀ n, has1 sx n = true → Q (.int n) H := fun n e => q n (by rw [hasL_cons, e, Bool.true_or])
    obtain ⟨lo, hi⟩ := sx
    dsimp only at hcc
    walk_at "rd"
    refine i_ixT ht (show atI us 0 = some (.ref c) from atI_nat (j := 0) hv) ?_
    walk_at "rd"
    cases lo with
    | some k =>
      refine ite_nd (fun _ => ?_) (fun h => nomatch h)
      walk_at "rd"
      exact fin k (has_low hn rfl)
    | none =>
      refine ite_nd (fun h => absurd rfl h) (fun _ => ?_)
      walk_at "rd"
      cases hi with
      | none =>
        refine ite_d (fun _ => ?_) (fun h => absurd rfl h)
        exact fin 0 rfl
      | some k =>
        refine ite_d (fun h => nomatch h) (fun _ => ?_)
        walk_at "rd"
        exact fin k (by simp [has1])
end
end Spk

set_option Elab.async false
set_option linter.all false
set_option maxRecDepth 100000
set_option maxHeartbeats 1000000
namespace Spk
open PySem L2
local macro_rules | `(tactic| walk_at "rd") => `(tactic| repeat (first
  | with_reducible refine i_seq ?_ | with_reducible refine i_asg ?_ | with_reducible refine i_ret ?_ | with_reducible refine i_ifS ?_ | with_reducible refine i_if ?_
  | with_reducible refine i_for ?_ | with_reducible refine i_iL ?_ | with_reducible refine i_iT ?_ | with_reducible refine i_ckw ?_ | with_reducible refine i_cm ?_ | with_reducible refine And.intro (rfl : V.ref _ = V.ref _) ?_ | with_reducible refine i_rng1 ?_ | with_reducible refine i_bm ?_ | with_reducible refine i_bm0 ?_
  | with_reducible refine i_drop ?_ | with_reducible refine i_next ?_
  | with_reducible refine i_var rfl ?_ | with_reducible refine i_c ?_ | with_reducible refine i_op ?_ | with_reducible refine i_un ?_ | with_reducible refine i_name ?_
  | with_reducible refine i_rI0 ?_ | with_reducible refine i_rU ?_ | with_reducible refine i_rEq rfl ?_ | with_reducible refine i_rNe rfl ?_
  | with_reducible refine i_test ?_ | with_reducible refine i_tB ?_ | with_reducible refine i_and ?_ | with_reducible refine i_or ?_ | with_reducible refine i_not ?_
  | with_reducible refine i_andV ?_ | with_reducible refine i_orV ?_ | with_reducible refine i_notV ?_
  | with_reducible refine i_cons ?_ | with_reducible refine i_nil ?_ | with_reducible refine i_cb ?_ | with_reducible refine i_call ?_ | with_reducible refine i_bl ?_
  | with_reducible refine i_tup ?_ | with_reducible refine i_lst ?_ | with_reducible refine i_par ?_ | with_reducible refine i_gcons ?_ | with_reducible refine i_gnil ?_
  | with_reducible refine And.intro (rfl : V.non = V.non) ?_ | with_reducible refine i_ixT (by assumption) rfl ?_ | with_reducible refine i_ixL (by assumption) rfl ?_ | with_reducible refine i_gtup (by assumption) rfl ?_
  | with_reducible refine i_gsub ?_
  | with_reducible refine Or.inl (Exists.intro _ (And.intro (rfl : [V.int _] = [V.int _]) ?_)) | with_reducible refine Exists.intro _ (And.intro (rfl : [V.int _] = [V.int _]) ?_)
  | with_reducible refine Or.inr (Exists.intro _ (And.intro (rfl : [V.bl _] = [V.bl _]) ?_))
  | with_reducible refine Exists.intro _ (Exists.intro _ (And.intro (rfl : [V.int _, V.int _] = [V.int _, V.int _]) ?_))
  | with_reducible refine Exists.intro _ (Exists.intro _ (And.intro (rfl : [V.ref _] = [V.ref _]) (And.intro (Or.inl (SqL.of (by assumption))) ?_)))
  | with_reducible refine i_rI (show (0 : Int) < _ by assumption) ?_ | with_reducible refine i_rI (show (0 : Int) < _ by decide) ?_
  | with_reducible refine i_rI (pow_ok (Nat.le_of_ble_eq_true rfl) (Nat.le_of_ble_eq_true rfl)) ?_
  | with_reducible refine i_rI (cmulL rfl) ?_))
section
variable {P : Program} {w : World} {K : PySem.W.Frag} {mg : Str → Option Value} {base : Heap} {C fI fE : Addr} {mc : Value} {pe pb po pf ge gb go gf fO fA fS fW fM fN fB : Addr}
/-! ### _law_gaps -/
structure LgInv (C : Addr) (H0 : Hp) (t : Addr) (ps : List Stc) (i : Nat) (σ : L2.St) (H : Hp) : Prop where
  ex : ∃ (r : Addr) (qs : List Stc) (x2 : Option V), σ = [some (.ref t), some (.ref r), x2] ∧ Same H0 H ∧ Rng C H r qs ∧ (∀ n, hasL qs n = (ahF ps n || beF ps n || inG (ps.take (i + 1)) n)) ∧ qs.length ≤ 2 + i
abbrev s_Lgaps : Stmt := top 19
theorem sc_Lgaps : FnScope ["_law_parts", "_law_found", "_law_at"] ["_law_parts"] (defScope s_Lgaps) := ⟨rfl, rfl, rfl, by decide +kernel, rfl, by decide +kernel, by decide +kernel⟩
def sp_Lgaps (C : Addr) : Sp := fun vs H Q _ => ∃ t ps, vs = [.ref t] ∧ PartsT H t ps ∧ Canon ps ∧ ps.length ≤ 300 ∧ NewR C H Q (2 + ps.length) fun n => !hasL ps n
theorem ok_Lgaps {f : Addr} {fd : FuncData} (F : Fun K "_law_gaps" "_law_gaps" s_Lgaps f fd) (CM : ClsM K C mc pe pb po pf ge gb go gf fO) (R : ClsR P w K mg base C ge gb go gf fO fE) (g_C : mg "Ranges" = some (.ref C)) (z_range : mg "range" = none) (z_len : mg "len" = none) :
    FnOk P w K mg base CX0 6 f fd ["_law_parts"] (sp_Lgaps C) := by
  have R_empty := R.empty
  have R_full := R.full
  have R_between := R.between
  have R_or := R.or
  refine F.ok sc_Lgaps (fun vs H Q E h => ?_) (fun cdv A outer s H vs Q E hr h => ?_)
  · obtain ⟨t, ps, rfl, _⟩ := h
    rfl
  · obtain ⟨t, ps, rfl, pt, hc, hz, q⟩ := h
    refine ⟨_, (pss_cons (ps_if (pt_cmpR (op_eqD hr.units) (pv 0) (pe_tup pa_nil) (nomark _))
 (pss_one (ps_ret (pe_cmeth0 (pe_glob rfl g_C (relR _)) CM.rd CM.full R_full (hr.mono (by decide)) pass0)))
 pss_nil)
 (pss_cons (ps_set (i := 1) sc_Lgaps.nd rfl (Or.inl rfl) (pe_cmeth0 (pe_glob rfl g_C (relR _)) CM.rd CM.empty R_empty (hr.mono (by decide)) pass0))
 (C8.pss_cut (ps_if (pt_cmpR op_notN (pe_ix ix_tup (pe_ix ix_tup (pv 0) pe_int (fun _ _ => rfl)) pe_int (fun _ _ => rfl)) pe_non (nomark _))
 (pss_one (ps_set (i := 1) sc_Lgaps.nd rfl (Or.inl rfl) (pe_op (op_own (op := .BitOr) R_or (hr.mono (by decide)) CM.self CM.orF CM.orI) (pv 1) (ClX.pe_cmeth (pe_glob rfl g_C (relR _)) CM.rd CM.between R_between (hr.mono (by decide)) pass0 (pa_cons pe_non (pa_cons (pe_op op_sub (pe_ix ix_tup (pe_ix ix_tup (pv 0) pe_int (fun _ _ => rfl)) pe_int (fun _ _ => rfl)) pe_int) pa_nil))))))
 pss_nil)
 (C8.pss_cut (ps_if (pt_cmpR op_notN (pe_ix ix_tup (pe_ix ix_tup (pv 0) (pe_un un_neg pe_int) (fun _ _ => rfl)) pe_int (fun _ _ => rfl)) pe_non (nomark _))
 (pss_one (ps_set (i := 1) sc_Lgaps.nd rfl (Or.inl rfl) (pe_op (op_own (op := .BitOr) R_or (hr.mono (by decide)) CM.self CM.orF CM.orI) (ClX.pe_cmeth (pe_glob rfl g_C (relR _)) CM.rd CM.between R_between (hr.mono (by decide)) pass0 (pa_cons (pe_op op_add (pe_ix ix_tup (pe_ix ix_tup (pv 0) (pe_un un_neg pe_int) (fun _ _ => rfl)) pe_int (fun _ _ => rfl)) pe_int) (pa_cons pe_non pa_nil))) (pv 1))))
 pss_nil)
 (pss_cons (ps_for PassesOwn.never rfl (pi_range2 (by rfl) z_range (pa_cons pe_int (pa_cons (pe_callB call_len_seq (by rfl) z_len PySem.boot_len (pa_cons (pv 0) pa_nil)) pa_nil))) (pg_name (i := 2) sc_Lgaps.nd rfl (Or.inl rfl))
 (pss_one (ps_set (i := 1) sc_Lgaps.nd rfl (Or.inl rfl) (pe_op (op_own (op := .BitOr) R_or (hr.mono (by decide)) CM.self CM.orF CM.orI) (pv 1) (ClX.pe_cmeth (pe_glob rfl g_C (relR _)) CM.rd CM.between R_between (hr.mono (by decide)) pass0 (pa_cons (pe_op op_add (pe_ix ix_tup (pe_ix ix_tup (pv 0) (pe_op op_sub (pv 2) pe_int) (fun _ _ => rfl)) pe_int (fun _ _ => rfl)) pe_int) (pa_cons (pe_op op_sub (pe_ix ix_tup (pe_ix ix_tup (pv 0) (pv 2) (fun _ _ => rfl)) pe_int (fun _ _ => rfl)) pe_int) pa_nil)))))))
 (pss_one (ps_ret (pv 1)))))))), ?_⟩
    obtain ⟨us, ht, tu⟩ := id pt
    have hlen := tups_len tu
    walk_at "rd"
    refine ⟨Nat.zero_le _, fun y hy => ?_⟩
    obtain ⟨H1, e1, s1, h1⟩ := new_heap (o := .tup []) hy
    rw [e1]
    refine ⟨psD ps, psD [], dp_parts (pt.up s1), dp_parts ⟨[], h1, .nil⟩, shaped_ps ps, shaped_ps [], ?_⟩
    rw [eqv_psD]
    walk_at "rd"
    refine ite_d (fun he => ?_) (fun hne => ?_)
    · walk_at "rd"
      refine ⟨rfl, fun r H2 s2 hr2 => ?_⟩
      subst he
      exact q r H2 _ (same_tr s1 s2) hr2 (fun k => by simp [hasL, has1]) (by simp)
    · walk_at "rd"
      refine ⟨rfl, fun r0 H2 s2 hr2 => ?_⟩
      have s02 := same_tr s1 s2
      obtain ⟨sx, rest, rfl⟩ := List.exists_cons_of_ne_nil hne
      obtain ⟨v, hv, c, rfl, hcc⟩ := tups_get tu (i := 0) (by simp)
      simp only [List.getElem_cons_zero] at hcc
      obtain ⟨ini, sl, esl⟩ : ∃ ini sl, sx :: rest = ini ++ [sl] := by
        rcases List.eq_nil_or_concat (sx :: rest) with z | ⟨a, b, z⟩
        · cases z
        · exact ⟨a, b, by rw [z, List.concat_eq_append]⟩
      have tu2 := tu
      rw [esl] at tu2
      obtain ⟨ui, vl, eus, tui, cl, evl, hcl⟩ := tups_concat tu2
      subst evl
      have hat0 : atI us 0 = some (.ref c) := atI_nat (j := 0) hv
      have hatl : atI us (-1) = some (.ref cl) := by rw [eus]; exact atI_last _ _
      walk_at "rd"
      -- ahead of the first part
      refine ⟨fun σ' H' => ∃ (r : Addr) (qs : List Stc), σ' = [some (.ref t), some (.ref r), none] ∧ Same H H' ∧ Rng C H' r qs ∧ (∀ n, hasL qs n = ahF (sx :: rest) n) ∧ qs.length ≤ 1, ?_, ?_⟩
      · walk_at "rd"
        refine i_ixT (s02 _ _ ht) hat0 ?_
        walk_at "rd"
        refine i_ixT (s02 _ _ hcc) (show atI [ov sx.1, ov sx.2] 0 = some (ov sx.1) from rfl) ?_
        walk_at "rd"
        cases hlo : sx.1 with
        | none =>
          refine ite_nd (fun h => absurd rfl h) (fun _ => ?_)
          walk_at "rd"
          exact ⟨r0, [], rfl, s02, hr2, fun n => by rw [hasL_nil, ahF, hlo], Nat.zero_le _⟩
        | some k =>
          refine ite_nd (fun _ => ?_) (fun h => nomatch h)
          walk_at "rd"
          refine i_ixT (s02 _ _ ht) hat0 ?_
          walk_at "rd"
          refine i_ixT (s02 _ _ hcc) (show atI [ov sx.1, ov sx.2] 0 = some (ov (some k)) from by rw [hlo]; rfl) ?_
          walk_at "rd"
          refine ⟨none, some (k - 1), rfl, fun o H3 qs s3 ho hm3 hz3 => ?_⟩
          have hr3 := hr2.up s3
          obtain ⟨dx, t1, i1, _⟩ := id hr3
          obtain ⟨dy, t2, i2, _⟩ := id ho
          walk_at "rd"
          refine ⟨r0, o, _, _, _, _, rfl, rfl, i1, i2, r0, o, [], qs, rfl, hr3, ho, by simp; omega, fun u H4 us' s4 hu hm4 hz4 => ?_⟩
          walk_at "rd"
          refine ⟨u, us', rfl, same_tr s02 (same_tr s3 s4), hu, fun n => ?_, by simp at hz4; omega⟩
          rw [hm4 n]
          simp only [hm3 n, hasL_nil, Bool.false_or, ahF, hlo]
      · rintro σ' H3 ⟨r1, qs1, rfl, s3, hr3, hm3, hz3⟩
        walk_at "rd"
        -- behind the last part
        refine ⟨fun σ' H' => ∃ (r : Addr) (qs : List Stc), σ' = [some (.ref t), some (.ref r), none] ∧ Same H H' ∧ Rng C H' r qs ∧ (∀ n, hasL qs n = (ahF (sx :: rest) n || beF (sx :: rest) n)) ∧ qs.length ≤ 2, ?_, ?_⟩
        · walk_at "rd"
          have eb : ∀ n, beF (sx :: rest) n = match sl.2 with | none => false | some h => has1 (some (h + 1), none) n := fun n => by
            rw [beF, esl, List.getLast?_concat]
            all_goals rfl
          refine i_ixT (s3 _ _ ht) hatl ?_
          walk_at "rd"
          refine i_ixT (s3 _ _ hcl) (show atI [ov sl.1, ov sl.2] 1 = some (ov sl.2) from rfl) ?_
          walk_at "rd"
          cases hhi : sl.2 with
          | none =>
            refine ite_nd (fun h => absurd rfl h) (fun _ => ?_)
            walk_at "rd"
            exact ⟨r1, qs1, rfl, s3, hr3, fun n => by rw [hm3 n, eb n, hhi, Bool.or_false], by omega⟩
          | some k =>
            refine ite_nd (fun _ => ?_) (fun h => nomatch h)
            walk_at "rd"
            refine i_ixT (s3 _ _ ht) hatl ?_
            walk_at "rd"
            refine i_ixT (s3 _ _ hcl) (show atI [ov sl.1, ov sl.2] 1 = some (ov (some k)) from by rw [hhi]; rfl) ?_
            walk_at "rd"
            refine ⟨some (k + 1), none, rfl, fun o H4 qs s4 ho hm4 hz4 => ?_⟩
            have hr4 := hr3.up s4
            obtain ⟨dx, t1, i1, _⟩ := id hr4
            obtain ⟨dy, t2, i2, _⟩ := id ho
            walk_at "rd"
            refine ⟨o, r1, _, _, _, _, rfl, rfl, i2, i1, o, r1, qs, qs1, rfl, ho, hr4, by omega, fun u H5 us' s5 hu hm5 hz5 => ?_⟩
            walk_at "rd"
            refine ⟨u, us', rfl, same_tr s3 (same_tr s4 s5), hu, fun n => ?_, by omega⟩
            rw [hm5 n, eb n, hhi]
            simp only [hm4 n, hm3 n]
            exact Bool.or_comm _ _
        · rintro σ' H4 ⟨r2, qs2, rfl, s4, hr4, hm4, hz4⟩
          walk_at "rd"
          unfold iRng2
          walk_at "rd"
          refine ⟨t, us, rfl, .inr (SqT.of (s4 _ _ ht)), ?_⟩
          walk_at "rd"
          refine ⟨⟨by decide, by decide, by omega, by omega⟩, for_range (lo := 1) (n := ((us.length : Int) - 1).toNat) (LgInv C H t (sx :: rest)) ⟨r2, qs2, none, rfl, s4, hr4, fun n => by rw [hm4 n]; simp [inG], by omega⟩ ?_ ?_⟩
          · rintro i σ H5 hi ⟨r3, qs3, x2, rfl, s5, hr5, hm5, hz5⟩
            have g1 : i < (sx :: rest).length := by omega
            have g2 : i + 1 < (sx :: rest).length := by omega
            obtain ⟨v1, hv1, c1, rfl, hc1⟩ := tups_get tu g1
            obtain ⟨v2, hv2, c2, rfl, hc2⟩ := tups_get tu g2
            obtain ⟨hx, lx, ehx, elx, hlt⟩ := List.pairwise_iff_getElem.mp hc.ap i (i + 1) g1 g2 (by omega)
            have et : ∀ n, inG ((sx :: rest).take (i + 1 + 1)) n = (inG ((sx :: rest).take (i + 1)) n || has1 (some (hx + 1), some (lx - 1)) n) := fun n => by
              rw [List.take_succ_eq_append_getElem g2, List.take_succ_eq_append_getElem g1, inG_snoc, ehx, elx]
              rfl
            generalize (sx :: rest)[i] = s1' at *
            generalize (sx :: rest)[i + 1] = s2' at *
            walk_at "rd"
            rw [show (1 : Int) + (i : Nat) - 1 = ((i : Nat) : Int) by omega]
            refine i_ixT (s5 _ _ ht) (atI_nat hv1) ?_
            walk_at "rd"
            refine i_ixT (s5 _ _ hc1) (show atI [ov s1'.1, ov s1'.2] 1 = some (ov (some hx)) from by rw [ehx]; rfl) ?_
            walk_at "rd"
            rw [show (1 : Int) + (i : Nat) = ((i + 1 : Nat) : Int) by omega]
            refine i_ixT (s5 _ _ ht) (atI_nat hv2) ?_
            walk_at "rd"
            refine i_ixT (s5 _ _ hc2) (show atI [ov s2'.1, ov s2'.2] 0 = some (ov (some lx)) from by rw [elx]; rfl) ?_
            walk_at "rd"
            refine ⟨some (hx + 1), some (lx - 1), rfl, fun o H6 qs s6 ho hm6 hz6 => ?_⟩
            have hr6 := hr5.up s6
            obtain ⟨dx, t1, i1, _⟩ := id hr6
            obtain ⟨dy, t2, i2, _⟩ := id ho
            walk_at "rd"
            refine ⟨r3, o, _, _, _, _, rfl, rfl, i1, i2, r3, o, qs3, qs, rfl, hr6, ho, by omega, fun u H7 us' s7 hu hm7 hz7 => ?_⟩
            walk_at "rd"
            refine ⟨u, us', _, rfl, same_tr s5 (same_tr s6 s7), hu, fun n => ?_, by omega⟩
            rw [hm7 n, et n]
            simp only [hm6 n, hm5 n]
            rw [Bool.or_assoc]
          · rintro σ H5 ⟨r3, qs3, x2, rfl, s5, hr5, hm5, hz5⟩
            walk_at "rd"
            refine q r3 H5 qs3 s5 hr5 (fun n => ?_) (by omega)
            rw [hm5 n, List.take_of_length_le (by omega)]
            exact (compl_all n hc).symm
end
end Spk

set_option Elab.async false
set_option linter.all false
set_option maxRecDepth 100000
set_option maxHeartbeats 1000000
namespace Spk
open PySem L2
local macro_rules | `(tactic| walk_at "rd") => `(tactic| repeat (first
  | with_reducible refine i_seq ?_ | with_reducible refine i_asg ?_ | with_reducible refine i_ret ?_ | with_reducible refine i_ifS ?_ | with_reducible refine i_if ?_
  | with_reducible refine i_for ?_ | with_reducible refine i_iL ?_ | with_reducible refine i_iT ?_ | with_reducible refine i_ckw ?_ | with_reducible refine i_cm ?_ | with_reducible refine And.intro (rfl : V.ref _ = V.ref _) ?_ | with_reducible refine i_rng1 ?_ | with_reducible refine i_bm ?_ | with_reducible refine i_bm0 ?_
  | with_reducible refine i_drop ?_ | with_reducible refine i_next ?_
  | with_reducible refine i_var rfl ?_ | with_reducible refine i_c ?_ | with_reducible refine i_op ?_ | with_reducible refine i_un ?_ | with_reducible refine i_name ?_
  | with_reducible refine i_rI0 ?_ | with_reducible refine i_rU ?_ | with_reducible refine i_rEq rfl ?_ | with_reducible refine i_rNe rfl ?_
  | with_reducible refine i_test ?_ | with_reducible refine i_tB ?_ | with_reducible refine i_and ?_ | with_reducible refine i_or ?_ | with_reducible refine i_not ?_
  | with_reducible refine i_andV ?_ | with_reducible refine i_orV ?_ | with_reducible refine i_notV ?_
  | with_reducible refine i_cons ?_ | with_reducible refine i_nil ?_ | with_reducible refine i_cb ?_ | with_reducible refine i_call ?_ | with_reducible refine i_bl ?_
  | with_reducible refine i_tup ?_ | with_reducible refine i_lst ?_ | with_reducible refine i_par ?_ | with_reducible refine i_gcons ?_ | with_reducible refine i_gnil ?_
  | with_reducible refine And.intro (rfl : V.non = V.non) ?_ | with_reducible refine i_ixT (by assumption) rfl ?_ | with_reducible refine i_ixL (by assumption) rfl ?_ | with_reducible refine i_gtup (by assumption) rfl ?_
  | with_reducible refine i_gsub ?_
  | with_reducible refine Or.inl (Exists.intro _ (And.intro (rfl : [V.int _] = [V.int _]) ?_)) | with_reducible refine Exists.intro _ (And.intro (rfl : [V.int _] = [V.int _]) ?_)
  | with_reducible refine Or.inr (Exists.intro _ (And.intro (rfl : [V.bl _] = [V.bl _]) ?_))
  | with_reducible refine Exists.intro _ (Exists.intro _ (And.intro (rfl : [V.int _, V.int _] = [V.int _, V.int _]) ?_))
  | with_reducible refine Exists.intro _ (Exists.intro _ (And.intro (rfl : [V.ref _] = [V.ref _]) (And.intro (Or.inl (SqL.of (by assumption))) ?_)))
  | with_reducible refine i_rI (show (0 : Int) < _ by assumption) ?_ | with_reducible refine i_rI (show (0 : Int) < _ by decide) ?_
  | with_reducible refine i_rI (pow_ok (Nat.le_of_ble_eq_true rfl) (Nat.le_of_ble_eq_true rfl)) ?_
  | with_reducible refine i_rI (cmulL rfl) ?_))
section
variable {P : Program} {w : World} {K : PySem.W.Frag} {mg : Str → Option Value} {base : Heap} {C fI fE : Addr} {mc : Value} {pe pb po pf ge gb go gf fO fA fS fW fM fN fB : Addr}
theorem ev_of1 {σ : L2.St} {H0 : Hp} {i : Nat} {x : Int} (e : σ[i]? = some (some (.int x))) : Ev C (ClX.tCMeth C (sp_of C) E0 (tC (.ref C)) (tCons (tVar i) tNil)) σ H0 (hasL (singles [x])) 1 :=
  fun H sm Q q => ⟨rfl, i_cons ⟨_, e, i_nil ⟨[x], rfl, by simp, fun r H' ps s hr hm hz => q r H' ps s hr hm hz⟩⟩⟩
theorem cut_drop (xs : List V) (k : Nat) (h : k ≤ xs.length) : cutV xs (some (k : Int)) none = xs.drop k := by
  unfold cutV
  rw [HT.sIx_none, HT.sIx_nat, Nat.min_eq_left h, List.take_of_length_le (by rw [List.length_drop]; exact Nat.le_refl _)]
theorem canon_erase {ps : List Stc} (h : Canon ps) (i : Nat) : Canon (ps.eraseIdx i) := ⟨fun s hs => h.ne s (List.mem_of_mem_eraseIdx hs), h.ap.sublist (List.eraseIdx_sublist ps i)⟩
/-- a number of a part is in no other part -/
theorem alone {ps : List Stc} (h : Canon ps) {i : Nat} (hi : i < ps.length) {n : Int} (hn : has1 ps[i] n = true) : hasL (ps.eraseIdx i) n = false := by
  rw [Bool.eq_false_iff]
  intro z
  rw [List.eraseIdx_eq_take_drop_succ, hasL_append, Bool.or_eq_true] at z
  have ep : ps = ps.take i ++ ps[i] :: ps.drop (i + 1) := by
    rw [← List.drop_eq_getElem_cons hi, List.take_append_drop]
  have hc : Canon (ps.take i ++ ps[i] :: ps.drop (i + 1)) := by rw [← ep]; exact h
  rcases z with z | z
  · have := later_all hc z hn
    omega
  · have hp := (List.pairwise_append.mp hc.ap).2.1
    obtain ⟨t, ht, h1⟩ := List.any_eq_true.mp z
    obtain ⟨x, y, e1, e2, q⟩ := (List.pairwise_cons.mp hp).1 t ht
    simp only [has1, e1, Bool.and_eq_true, decide_eq_true_eq] at hn
    simp only [has1, e2, Bool.and_eq_true, decide_eq_true_eq] at h1
    omega
abbrev s_parts_right : Stmt := top 22
theorem sc_parts_right : FnScope ["_law_pen_here", "_law_made_here", "_law_parts", "_law_at", "_law_fewer", "_law_number", "_law_less"] ["_law_pen_here", "_law_made_here"] (defScope s_parts_right) := ⟨rfl, rfl, rfl, by decide +kernel, rfl, by decide +kernel, by decide +kernel⟩
def sp_parts_right (C : Addr) : Sp := fun vs H Q _ => ∃ p L n a ps, vs = [.ref p, .ref a] ∧ Pen H p L n ∧ n ≤ 8000 ∧ Rng C H a ps ∧ ps.length ≤ 60 ∧ ∀ H', Keep H H' → Pen H' p L (n + 6 * ps.length + 1) → Q (.bl true) H'
theorem ok_parts_right {f f1 f2 f3 f4 f5 : Addr} {fd fd1 fd2 fd3 fd4 fd5 : FuncData} (F : Fun K "_law_parts_right" "_law_parts_right" s_parts_right f fd) (T : ClsT K mg C fI fE) (CM : ClsM K C mc pe pb po pf ge gb go gf fO) (CN : ClsN K C fA fS fW fM) (R : ClsR P w K mg base C ge gb go gf fO fE)
    (R_sub : FnR P w K mg base CX0 5 fS (mSub C)) (R_is_within : FnR P w K mg base CX0 6 fW (mWi C))
    (F_draw : Fun K "_law_draw" "_law_draw" s_draw f1 fd1) (B_draw : Binds K fd1 ["_law_pen_here", "_law_many"] []) (g_draw : mg "_law_draw" = some (.ref f1)) (G_draw : FnOk P w K mg base CX0 1 f1 fd1 ["_law_pen_here", "_law_many"] sp_draw)
    (F_made : Fun K "_law_made" "_law_made" s_made f2 fd2) (B_made : Binds K fd2 ["_law_pen_here", "_law_stretches_here"] []) (g_made : mg "_law_made" = some (.ref f2)) (G_made : FnOk P w K mg base CX0 6 f2 fd2 ["_law_pen_here", "_law_stretches_here"] (sp_made C))
    (F_is_like : Fun K "_law_is_like" "_law_is_like" s_is_like f3 fd3) (B_is_like : Binds K fd3 ["_law_one", "_law_other"] []) (g_is_like : mg "_law_is_like" = some (.ref f3)) (G_is_like : FnOk P w K mg base CX0 7 f3 fd3 ["_law_one", "_law_other"] (sp_is_like C))
    (F_Lgaps : Fun K "_law_gaps" "_law_gaps" s_Lgaps f4 fd4) (B_Lgaps : Binds K fd4 ["_law_parts"] []) (g_Lgaps : mg "_law_gaps" = some (.ref f4)) (G_Lgaps : FnOk P w K mg base CX0 6 f4 fd4 ["_law_parts"] (sp_Lgaps C))
    (F_inner : Fun K "_law_inner" "_law_inner" s_inner f5 fd5) (B_inner : Binds K fd5 ["_law_parts"] []) (g_inner : mg "_law_inner" = some (.ref f5)) (G_inner : FnOk P w K mg base CX0 1 f5 fd5 ["_law_parts"] sp_inner)
    (g_C : mg "Ranges" = some (.ref C)) (z_list : mg "list" = none) (z_len : mg "len" = none) : FnOk P w K mg base CX0 8 f fd ["_law_pen_here", "_law_made_here"] (sp_parts_right C) := by
  have R_empty := R.empty
  have R_full := R.full
  have R_of := R.of
  have R_or := R.or
  have R_eq := R.eq
  refine F.ok sc_parts_right (fun vs H Q E h => ?_) (fun cdv A outer s H vs Q E hr h => ?_)
  · obtain ⟨p, L, n, a, ps, rfl, _⟩ := h
    rfl
  · obtain ⟨p, L, n, a, ps, rfl, hp, hn, ra, hz, q⟩ := h
    refine ⟨_, (pss_cons (ps_set (i := 2) sc_parts_right.nd rfl (Or.inl rfl) (pe_fld (pv 1) rfl))
 (pss_cons (ps_if (PW.pt (pw_or (pt_not (pt_val (pe_call G_is_like (hr.mono (by decide)) rfl g_is_like F_is_like.kp B_is_like .nil pass0 (pa_cons (pe_call G_made (hr.mono (by decide)) rfl g_made F_made.kp B_made .nil pass0 (pa_cons (pv 0) (pa_cons (pe_callTy call_list_of (by rfl) z_list (by decide +kernel) (pa_cons (pv 2) pa_nil)) pa_nil))) (pa_cons (pv 1) pa_nil))))) (pw_or1 (pt_not (pt_val (pe_call G_is_like (hr.mono (by decide)) rfl g_is_like F_is_like.kp B_is_like .nil pass0 (pa_cons (pe_call G_Lgaps (hr.mono (by decide)) rfl g_Lgaps F_Lgaps.kp B_Lgaps .nil pass0 (pa_cons (pv 2) pa_nil)) (pa_cons (pe_op (op_own (op := .Sub) R_sub (hr.mono (by decide)) CM.self CN.subF CN.subI) (pe_cmeth0 (pe_glob rfl g_C (relR _)) CM.rd CM.full R_full (hr.mono (by decide)) pass0) (pv 1)) pa_nil))))))))
 (pss_one (ps_ret pe_bl))
 pss_nil)
 (pss_cons (ps_if (pt_cmpR (op_eqD hr.units) (pv 2) (pe_tup pa_nil) (nomark _))
 (pss_one (ps_ret (pe_cmpR (op_eqO R_eq (hr.mono (by decide)) T.eq.eq T.eq.fn) (pv 1) (pe_cmeth0 (pe_glob rfl g_C (relR _)) CM.rd CM.empty R_empty (hr.mono (by decide)) pass0) (nomark _))))
 pss_nil)
 (pss_cons (ps_set (i := 3) sc_parts_right.nd rfl (Or.inl rfl) (pe_call G_draw (hr.mono (by decide)) rfl g_draw F_draw.kp B_draw .nil pass0 (pa_cons (pv 0) (pa_cons (pe_callB call_len_seq (by rfl) z_len PySem.boot_len (pa_cons (pv 2) pa_nil)) pa_nil))))
 (pss_cons (ps_set (i := 4) sc_parts_right.nd rfl (Or.inl rfl) (pe_call G_made (hr.mono (by decide)) rfl g_made F_made.kp B_made .nil pass0 (pa_cons (pv 0) (pa_cons (pe_callTy call_list_of (by rfl) z_list (by decide +kernel) (pa_cons (pe_op op_catA (pe_slice sl_tup (pv 2) po_none (po_some (pv 3))) (pe_slice sl_tup (pv 2) (po_some (pe_op op_add (pv 3) pe_int)) po_none)) pa_nil)) pa_nil))))
 (pss_cons (ps_if (PW.pt (pw_or (pt_cmpR (op_eqO R_eq (hr.mono (by decide)) T.eq.eq T.eq.fn) (pv 4) (pv 1) (nomark _)) (pw_or (pt_not (pt_val (pe_methR (pv 4) T.cl CN.is_within R_is_within (hr.mono (by decide)) pass0 (pa_cons (pv 1) pa_nil)))) (pw_or (pt_val (pe_methR (pv 1) T.cl CN.is_within R_is_within (hr.mono (by decide)) pass0 (pa_cons (pv 4) pa_nil))) (pw_or1 (pt_cmpR op_ne (pe_callB call_len_seq (by rfl) z_len PySem.boot_len (pa_cons (pe_fld (pv 4) rfl) pa_nil)) (pe_op op_sub (pe_callB call_len_seq (by rfl) z_len PySem.boot_len (pa_cons (pv 2) pa_nil)) pe_int) (nomark _)))))))
 (pss_one (ps_ret pe_bl))
 pss_nil)
 (pss_cons (ps_set (i := 5) sc_parts_right.nd rfl (Or.inl rfl) (pe_call G_inner (hr.mono (by decide)) rfl g_inner F_inner.kp B_inner .nil pass0 (pa_cons (pv 2) pa_nil)))
 (pss_cons (ps_set (i := 6) sc_parts_right.nd rfl (Or.inl rfl) (pe_op (op_own (op := .Sub) R_sub (hr.mono (by decide)) CM.self CN.subF CN.subI) (pv 1) (ClX.pe_cmeth (pe_glob rfl g_C (relR _)) CM.rd CM.of R_of (hr.mono (by decide)) pass0 (pa_cons (pv 5) pa_nil))))
 (pss_one (ps_ret (pe_and (pe_cmpR (op_neO R_eq (hr.mono (by decide)) T.eq) (pv 6) (pv 1) (nomark _)) (pe_and (pe_not (pe_methR (pv 1) T.cl CN.is_within R_is_within (hr.mono (by decide)) pass0 (pa_cons (pv 6) pa_nil))) (pe_one (pe_cmpR (op_eqO R_eq (hr.mono (by decide)) T.eq.eq T.eq.fn) (pe_op (op_own (op := .BitOr) R_or (hr.mono (by decide)) CM.self CM.orF CM.orI) (pv 6) (ClX.pe_cmeth (pe_glob rfl g_C (relR _)) CM.rd CM.of R_of (hr.mono (by decide)) pass0 (pa_cons (pv 5) pa_nil))) (pv 1) (nomark _))))))))))))))), ?_⟩
    obtain ⟨dx, t, ha, pt, hc⟩ := id ra
    obtain ⟨vs, ht, tu⟩ := id pt
    have hlen := tups_len tu
    walk_at "rd"
    refine ⟨_, rfl, a, C, dx, _, _, rfl, ha, T.cl, T.nP, lk_parts, ?_⟩
    walk_at "rd"
    refine ⟨t, vs, rfl, .inr (SqT.of ht), fun d hd => ?_⟩
    obtain ⟨H1, e1, s1, h1⟩ := new_heap (o := .lst vs) hd
    rw [e1]
    walk_at "rd"
    refine ⟨p, L, n, d, ps, rfl, hp.up s1, by omega, ⟨vs, h1, tu.up s1⟩, by omega, hc.ne, fun r H2 qs k2 p2 hr2 hm2 hz2 => ?_⟩
    have eq : qs = ps := canon_unique hr2.canon hc hm2
    subst eq
    have k02 : Keep H H2 := (Same.keep s1).trans k2
    walk_at "rd"
    refine ⟨r, a, qs, rfl, hr2, ra.keep k02, by omega, fun H3 s3 => ?_⟩
    refine ⟨true, rfl, iteF ?_⟩
    walk_at "rd"
    refine ⟨t, qs, rfl, (pt.keep k02).up s3, hc, by omega, fun g H4 gs s4 hg hmg hzg => ?_⟩
    walk_at "rd"
    refine ⟨rfl, fun rf H5 s5 hrf => ?_⟩
    walk_at "rd"
    have t25 := same_tr s3 (same_tr s4 s5)
    have ra5 := (ra.keep k02).up t25
    obtain ⟨dx5, t5, i5, _⟩ := id hrf
    obtain ⟨dx6, t6, i6, _⟩ := id ra5
    refine ⟨rf, a, _, _, _, _, rfl, rfl, i5, i6, rf, a, _, qs, rfl, hrf, ra5, by simp; omega, fun u H6 us s6 hu hmu hzu => ?_⟩
    walk_at "rd"
    have eg : us = gs := canon_unique hu.canon hg.canon fun k => by
      rw [hmu k, hmg k]
      simp [hasL, has1]
    subst eg
    refine ⟨g, u, us, rfl, hg.up (same_tr s5 s6), hu, by omega, fun H7 s7 => ?_⟩
    refine ⟨true, rfl, iteF ?_⟩
    walk_at "rd"
    have t27 := same_tr t25 (same_tr s6 s7)
    have ra7 := (ra.keep k02).up t27
    have pt7 := (pt.keep k02).up t27
    have p7 := p2.up t27
    have k07 : Keep H H7 := k02.trans (Same.keep t27)
    refine ⟨Nat.zero_le _, fun y hy => ?_⟩
    obtain ⟨H8, e8, s8, h8⟩ := new_heap (o := .tup []) hy
    rw [e8]
    refine ⟨psD qs, psD [], dp_parts (pt7.up s8), dp_parts ⟨[], h8, .nil⟩, shaped_ps qs, shaped_ps [], ?_⟩
    rw [eqv_psD]
    have ra8 := ra7.up s8
    have k08 : Keep H H8 := k07.trans (Same.keep s8)
    have p8 := p7.up s8
    have pt8 := pt7.up s8
    clear hg hu hrf ra5 i5 i6 hmg hmu hr2 ra7 p7 pt7 t25 t27 k07 s3 s4 s5 s6 s7 h1 s1 hm2
    walk_at "rd"
    refine ite_d (fun he => ?_) (fun hne => ?_)
    · subst he
      walk_at "rd"
      refine ⟨rfl, fun re H9 s9 hre => ?_⟩
      have ra9 := ra8.up s9
      obtain ⟨dx9, t9, i9, _⟩ := id ra9
      refine ⟨a, dx9, _, _, rfl, i9, hre.ty T, self_nf, a, _, [], _, rfl, ra9, .inl ⟨re, [], rfl, hre, rfl⟩, _, rfl, ?_⟩
      rw [decide_eq_true rfl]
      exact q H9 (k08.trans (Same.keep s9)) ((p8.up s9).mono (by simp))
    · have hpos : 0 < qs.length := List.length_pos_iff.mpr hne
      obtain ⟨vs8, ht8, tu8⟩ := id pt8
      have hlen8 := tups_len tu8
      walk_at "rd"
      refine ⟨t, vs8, rfl, .inr (SqT.of ht8), ?_⟩
      walk_at "rd"
      refine ⟨p, L, _, _, rfl, p8, by omega, by omega, by omega, fun dd H9 d0 d1 k9 p9 => ?_⟩
      obtain ⟨i, rfl⟩ : ∃ i : Nat, dd = i := ⟨dd.toNat, by omega⟩
      have hi : i < qs.length := by omega
      have ra9 := ra8.keep k9
      have pt9 := pt8.keep k9
      have ht9 : H9 t = some (.tup vs8) := k9 _ _ rfl ht8
      have tu9 := tu8.keep k9
      walk_at "rd"
      unfold tSl
      walk_at "rd"
      refine ⟨_, rfl, (i : Int), rfl, t, vs8, rfl, SqT.of ht9, ?_, fun y1 hy1 => ?_⟩
      · rw [HT.sIx_none, HT.sIx_nat]
        omega
      rw [cut_take]
      obtain ⟨H10, e10, s10, h10⟩ := new_heap (o := .tup (vs8.take i)) hy1
      rw [e10]
      unfold tPart
      walk_at "rd"
      refine ⟨_, rfl, t, vs8, rfl, SqT.of (s10 _ _ ht9), ?_, fun y2 hy2 => ?_⟩
      · rw [show (i : Int) + 1 = ((i + 1 : Nat) : Int) by omega, HT.sIx_none, HT.sIx_nat]
        omega
      rw [show (i : Int) + 1 = ((i + 1 : Nat) : Int) by omega, cut_drop _ _ (by omega)]
      obtain ⟨H11, e11, s11, h11⟩ := new_heap (o := .tup (vs8.drop (i + 1))) hy2
      rw [e11]
      have eer : vs8.take i ++ vs8.drop (i + 1) = vs8.eraseIdx i := (List.eraseIdx_eq_take_drop_succ vs8 i).symm
      have cat : ∀ Q' : VK, (∀ p' H', Same H11 H' → H' p' = some (.tup (vs8.eraseIdx i)) → Q' (.ref p') H') → rCatA K (.ref y1) (.ref y2) H11 Q' := by
        intro Q' hQ'
        refine ⟨y1, y2, _, _, rfl, rfl, SqT.of (s11 _ _ h10), SqT.of h11, size_of (by rw [List.length_take, List.length_drop]; omega), fun e => ?_, fun _ e => ?_, fun _ _ p3 hp3 => ?_⟩
        · refine hQ' y2 H11 (Same.refl _) ?_
          rw [← eer, e]
          exact h11
        · refine hQ' y1 H11 (Same.refl _) ?_
          rw [← eer, e, List.append_nil]
          exact s11 _ _ h10
        · obtain ⟨H12, e12, s12, h12⟩ := new_heap (o := .tup (vs8.take i ++ vs8.drop (i + 1))) hp3
          rw [e12]
          exact hQ' p3 H12 s12 (by rw [← eer]; exact h12)
      refine cat _ fun p3 H12 s12 h12 => ?_
      have t912 := same_tr s10 (same_tr s11 s12)
      walk_at "rd"
      refine ⟨p3, _, rfl, .inr (SqT.of h12), fun d2 hd2 => ?_⟩
      obtain ⟨H13, e13, s13, h13⟩ := new_heap (o := .lst (vs8.eraseIdx i)) hd2
      rw [e13]
      have t913 := same_tr t912 s13
      have hle : (qs.eraseIdx i).length = qs.length - 1 := by rw [List.length_eraseIdx, if_pos hi]
      walk_at "rd"
      refine ⟨p, L, _, d2, qs.eraseIdx i, rfl, p9.up t913, by omega, ⟨_, h13, tups_erase i (tu9.up t913)⟩, by omega, (canon_erase hc i).ne, fun fw H14 rs k14 p14 hfw hmw hzw => ?_⟩
      have er : rs = qs.eraseIdx i := canon_unique hfw.canon (canon_erase hc i) hmw
      have ra14 := (ra9.up t913).keep k14
      have pt14 := (pt9.up t913).keep k14
      have k014 : Keep H H14 := ((k08.trans k9).trans (Same.keep t913)).trans k14
      obtain ⟨x, hx⟩ := ne_has (hc.ne _ (List.getElem_mem hi))
      have hxq : hasL qs x = true := List.any_eq_true.mpr ⟨_, List.getElem_mem hi, hx⟩
      have hxr : hasL rs x = false := by rw [er]; exact alone hc hi hx
      have sub : ∀ k, hasL rs k = true → hasL qs k = true := fun k hk => by
        rw [hmw k] at hk
        obtain ⟨s, hs, h1⟩ := List.any_eq_true.mp hk
        exact List.any_eq_true.mpr ⟨s, List.mem_of_mem_eraseIdx hs, h1⟩
      have EA : ∀ {σ : L2.St}, σ[1]? = some (some (.ref a)) → Ev C (tVar 1) σ H14 (hasL qs) 60 := fun e => ev_var e ra14 (by omega)
      have EF : ∀ {σ : L2.St}, σ[4]? = some (some (.ref fw)) → Ev C (tVar 4) σ H14 (hasL rs) 60 := fun e => ev_var e hfw (by omega)
      with_reducible refine i_name ?_
      with_reducible refine i_seq ?_
      with_reducible refine i_ifS ?_
      with_reducible refine i_or ?_
      refine i_test (ev_eqV T (EF rfl) (EA rfl) (Same.refl _) fun c H15 hc15 s15 => ⟨c, rfl, ?_⟩)
      have ec : c = false := by
        cases c with
        | false => rfl
        | true =>
          have := hc15.mp rfl x
          rw [hxr, hxq] at this
          cases this
      subst ec
      refine iteF ?_
      with_reducible refine i_or ?_
      with_reducible refine i_not ?_
      refine i_test (ev_wiV (EF rfl) (EA rfl) (by decide) s15 fun c H16 hc16 s16 => ⟨c, rfl, ?_⟩)
      have ec : c = true := hc16.mpr sub
      subst ec
      refine iteF ?_
      with_reducible refine i_or ?_
      refine i_test (ev_wiV (EA rfl) (EF rfl) (by decide) s16 fun c H17 hc17 s17 => ⟨c, rfl, ?_⟩)
      have ec : c = false := by
        cases c with
        | false => rfl
        | true =>
          have := hc17.mp rfl x hxq
          rw [hxr] at this
          cases this
      subst ec
      refine iteF ?_
      obtain ⟨dxf, tf, if_, ⟨vsf, htf, tuf⟩, _⟩ := id (hfw.up s17)
      have lf := tups_len tuf
      obtain ⟨vsp, htp, tup⟩ := id (pt14.up s17)
      have lp := tups_len tup
      walk_at "rd"
      refine ⟨_, rfl, fw, C, dxf, _, _, rfl, if_, T.cl, T.nP, lk_parts, ?_⟩
      walk_at "rd"
      refine ⟨tf, vsf, rfl, .inr (SqT.of htf), ?_⟩
      walk_at "rd"
      refine ⟨t, vsp, rfl, .inr (SqT.of htp), ?_⟩
      walk_at "rd"
      refine ite_nd (fun h => absurd (by congr 1; rw [lf, lp, er]; omega) h) (fun _ => ?_)
      walk_at "rd"
      refine ⟨t, qs, rfl, ⟨vsp, htp, tup⟩, hc, hne, fun x2 hx2 => ?_⟩
      with_reducible refine i_name ?_
      with_reducible refine i_seq ?_
      with_reducible refine i_asg ?_
      refine ev_sub (EA rfl) (ev_of1 rfl) (by decide) H17 s17 _ fun rl H18 ls s18 hrl hml hzl => ?_
      have t18 := same_tr s17 s18
      have hsx : ∀ k, hasL (singles [x2]) k = decide (k = x2) := fun k => by
        rw [Bool.eq_iff_iff]
        simp [singles, hasL, has1]
        omega
      have EL : ∀ {σ : L2.St}, σ[6]? = some (some (.ref rl)) → Ev C (tVar 6) σ H18 (hasL ls) 80 := fun e => ev_var e hrl (by omega)
      have EB : ∀ {σ : L2.St}, σ[1]? = some (some (.ref a)) → Ev C (tVar 1) σ H18 (hasL qs) 60 := fun e => ev_var e (ra14.up t18) (by omega)
      have hlx : hasL ls x2 = false := by
        rw [hml x2]
        simp only [hsx x2, decide_true, Bool.not_true, Bool.and_false]
      with_reducible refine i_name ?_
      with_reducible refine i_ret ?_
      with_reducible refine i_andV ?_
      refine ev_neV T (EL rfl) (EB rfl) (Same.refl _) fun c H19 hc19 s19 => ⟨c, rfl, ?_⟩
      have ec : c = true := by
        cases c with
        | true => rfl
        | false =>
          have := hc19.mp rfl x2
          rw [hlx, hx2] at this
          cases this
      subst ec
      refine iteT ?_
      with_reducible refine i_andV ?_
      with_reducible refine i_notV ?_
      refine ev_wiV (EB rfl) (EL rfl) (by decide) s19 fun c H20 hc20 s20 => ⟨c, rfl, ?_⟩
      have ec : c = false := by
        cases c with
        | false => rfl
        | true =>
          have := hc20.mp rfl x2 hx2
          rw [hlx] at this
          cases this
      subst ec
      refine ⟨true, rfl, iteT ?_⟩
      refine ev_eqV T (ev_or (EL rfl) (ev_of1 rfl) (by decide)) (EB rfl) s20 fun c H21 hc21 s21 => ?_
      have ec : c = true := hc21.mpr fun k => by
        rw [hml k]
        simp only [hsx k]
        by_cases e : k = x2
        · subst e
          simp [hx2]
        · simp [e]
      subst ec
      exact q H21 (k014.trans (Same.keep (same_tr t18 s21))) ((p14.up (same_tr t18 s21)).mono (by omega))
end
end Spk

set_option Elab.async false
set_option linter.all false
set_option maxRecDepth 100000
set_option maxHeartbeats 1000000
namespace Spk
open PySem L2
local macro_rules | `(tactic| walk_at "rd") => `(tactic| repeat (first
  | with_reducible refine i_seq ?_ | with_reducible refine i_asg ?_ | with_reducible refine i_ret ?_ | with_reducible refine i_ifS ?_ | with_reducible refine i_if ?_
  | with_reducible refine i_for ?_ | with_reducible refine i_iL ?_ | with_reducible refine i_iT ?_ | with_reducible refine i_ckw ?_ | with_reducible refine i_cm ?_ | with_reducible refine And.intro (rfl : V.ref _ = V.ref _) ?_ | with_reducible refine i_rng1 ?_ | with_reducible refine i_bm ?_ | with_reducible refine i_bm0 ?_
  | with_reducible refine i_drop ?_ | with_reducible refine i_next ?_
  | with_reducible refine i_var rfl ?_ | with_reducible refine i_c ?_ | with_reducible refine i_op ?_ | with_reducible refine i_un ?_ | with_reducible refine i_name ?_
  | with_reducible refine i_rI0 ?_ | with_reducible refine i_rU ?_ | with_reducible refine i_rEq rfl ?_ | with_reducible refine i_rNe rfl ?_
  | with_reducible refine i_test ?_ | with_reducible refine i_tB ?_ | with_reducible refine i_and ?_ | with_reducible refine i_or ?_ | with_reducible refine i_not ?_
  | with_reducible refine i_andV ?_ | with_reducible refine i_orV ?_ | with_reducible refine i_notV ?_
  | with_reducible refine i_cons ?_ | with_reducible refine i_nil ?_ | with_reducible refine i_cb ?_ | with_reducible refine i_call ?_ | with_reducible refine i_bl ?_
  | with_reducible refine i_tup ?_ | with_reducible refine i_lst ?_ | with_reducible refine i_par ?_ | with_reducible refine i_gcons ?_ | with_reducible refine i_gnil ?_
  | with_reducible refine And.intro (rfl : V.non = V.non) ?_ | with_reducible refine i_ixT (by assumption) rfl ?_ | with_reducible refine i_ixL (by assumption) rfl ?_ | with_reducible refine i_gtup (by assumption) rfl ?_
  | with_reducible refine i_gsub ?_
  | with_reducible refine Or.inl (Exists.intro _ (And.intro (rfl : [V.int _] = [V.int _]) ?_)) | with_reducible refine Exists.intro _ (And.intro (rfl : [V.int _] = [V.int _]) ?_)
  | with_reducible refine Or.inr (Exists.intro _ (And.intro (rfl : [V.bl _] = [V.bl _]) ?_))
  | with_reducible refine Exists.intro _ (Exists.intro _ (And.intro (rfl : [V.int _, V.int _] = [V.int _, V.int _]) ?_))
  | with_reducible refine Exists.intro _ (Exists.intro _ (And.intro (rfl : [V.ref _] = [V.ref _]) (And.intro (Or.inl (SqL.of (by assumption))) ?_)))
  | with_reducible refine i_rI (show (0 : Int) < _ by assumption) ?_ | with_reducible refine i_rI (show (0 : Int) < _ by decide) ?_
  | with_reducible refine i_rI (pow_ok (Nat.le_of_ble_eq_true rfl) (Nat.le_of_ble_eq_true rfl)) ?_
  | with_reducible refine i_rI (cmulL rfl) ?_))
section
variable {P : Program} {w : World} {K : PySem.W.Frag} {mg : Str → Option Value} {base : Heap} {C fI fE : Addr} {mc : Value} {pe pb po pf ge gb go gf fO fA fS fW fM fN fB : Addr}
section
variable {σ : L2.St} {H0 H : Hp} {ta tb : TE} {g h : Int → Bool} {n m : Nat}
theorem none_of {H H' : Hp} {d : Addr} (e : Same H H') (h : H' d = none) : H d = none := by
  cases q : H d with
  | none => rfl
  | some o =>
    have := e _ _ q
    rw [h] at this
    cases this
theorem ev_samV {c : Nat} (a : Ev C ta σ H0 g n) (z : n ≤ 1900) (hg : Bnd g) (hc : c ≤ 4000) (hb : ∀ (H : Hp) (Q : VK), Q (.int c) H → tb σ H Q) (sm : Same H0 H) {Q : VK}
    (q : ∀ d H' out, H d = none → Same H H' → H' d = some (.lst (out.map V.int)) → Fst g Spk.place 0 c out → Q (.ref d) H') : tMethR C "sample" (mSam C) E0 ta (tCons tb tNil) σ H Q := by
  refine a H sm _ fun r1 H1 ps s1 hr1 hm1 hz1 => ?_
  obtain ⟨dx, t, a1, _⟩ := id hr1
  have e : hasL ps = g := funext hm1
  refine ⟨r1, dx, _, rfl, a1, lk_sample, i_cons (hb _ _ (i_nil ⟨r1, ps, c, rfl, hr1, by omega, by rw [e]; exact hg, hc, fun d H2 out nd s2 h2 f2 => ?_⟩))⟩
  rw [e] at f2
  exact q d H2 out (none_of s1 nd) (same_tr s1 s2) h2 f2
theorem ev_boolV (a : Ev C ta σ H0 g n) (sm : Same H0 H) {Q : VK} (q : ∀ (c : Bool) H', (c = true ↔ ∃ k, g k = true) → Same H0 H' → Q (.bl c) H') :
    tCB (fun xs H Q => ∃ x, xs = [x] ∧ rTruO C (fun vs H Q E => sp_bool C (vs ++ []) H Q E) x H (fun k H' => Q (.bl k) H')) (tCons ta tNil) σ H Q := by
  refine i_cb (i_cons (a H sm _ fun r1 H1 ps s1 hr1 hm1 hz1 => i_nil ?_))
  obtain ⟨dx, t, a1, _⟩ := id hr1
  refine ⟨_, rfl, r1, dx, _, rfl, a1, r1, ps, rfl, hr1, _, rfl, q _ H1 ?_ (same_tr sm s1)⟩
  cases ps with
  | nil =>
    refine Iff.intro (fun z => nomatch z) (fun ⟨k, hk⟩ => ?_)
    rw [← hm1 k, hasL_nil] at hk
    cases hk
  | cons s ps =>
    refine Iff.intro (fun _ => ?_) (fun _ => rfl)
    obtain ⟨k, hk⟩ := ne_has (hr1.canon.ne s (by simp))
    exact ⟨k, by rw [← hm1 k, hasL_cons, hk, Bool.true_or]⟩
end
theorem fst_drop {S : Int → Bool} {f : Int → Int} {p : Int} {c m : Nat} {out : List Int} (h : Fst S f p (c + m) out) (hc : c ≤ out.length) : Fst (fun n => S n && !(out.take c).contains n) f p m (out.drop c) := by
  have ha := h.asc
  have ha2 := ha
  rw [← List.take_append_drop c out] at ha2
  have hl := h.len
  refine ⟨ha.sublist (List.drop_sublist c out), fun n hn => ⟨?_, (h.mem n (List.mem_of_mem_drop hn)).2⟩, by rw [List.length_drop]; omega, fun n hs hp hn => ?_⟩
  · simp only [(h.mem n (List.mem_of_mem_drop hn)).1, Bool.true_and, Bool.not_eq_true']
    rw [Bool.eq_false_iff]
    intro z
    have := (List.pairwise_append.mp ha2).2.2 n (by simpa using z) n hn
    omega
  · simp only [Bool.and_eq_true, Bool.not_eq_true'] at hs
    have hno : n ∉ out := fun z => by
      by_cases q : n ∈ out.take c
      · have := hs.2
        rw [Bool.eq_false_iff] at this
        exact this (by simpa using q)
      · exact hn (take_drop_mem z q)
    have := h.full n hs.1 hp hno
    exact ⟨by rw [List.length_drop]; omega, fun k hk => this.2 k (List.mem_of_mem_drop hk)⟩
/-- the first numbers of a set that changes nowhere beyond thirteen digits -/
theorem sample_bd {S : Int → Bool} {c : Nat} {out : List Int} (hb : BndB 10000000000000 S) (h : Fst S Spk.place 0 c out) (hc : c ≤ 4000) : ∀ n, n ∈ out → -10000000010000 ≤ n ∧ n ≤ 10000000010000 := by
  intro n hn
  have hs := (h.mem n hn).1
  have hl := h.len
  have inn : ∀ m, S m = true → Spk.place m ≤ Spk.place n → m ∈ out := fun m hm hp => by
    by_cases q : m ∈ out
    · exact q
    · have := (h.full m hm (place_nonneg m) q).2 n hn
      omega
  constructor
  · by_cases q : -10000000010000 ≤ n
    · exact q
    · exfalso
      have sub := sub_len (a := rg n (-10000000000000)) (b := out) ((rg_asc _ _).imp fun {a b} h e => by omega) fun m hm => by
        rw [mem_rg] at hm
        refine inn m (by rw [hb.2 m n (by omega) (by omega)]; exact hs) ?_
        unfold Spk.place
        split <;> split <;> omega
      rw [rg_len] at sub
      omega
  · by_cases q : n ≤ 10000000010000
    · exact q
    · exfalso
      have sub := sub_len (a := rg 10000000000000 n) (b := out) ((rg_asc _ _).imp fun {a b} h e => by omega) fun m hm => by
        rw [mem_rg] at hm
        refine inn m (by rw [hb.1 m n (by omega) (by omega)]; exact hs) ?_
        unfold Spk.place
        split <;> split <;> omega
      rw [rg_len] at sub
      omega
theorem bnd_contains {ns : List Int} (h : ∀ n, n ∈ ns → -10000000010000 ≤ n ∧ n ≤ 10000000010000) : Bnd fun k => ns.contains k := by
  have no : ∀ k, (15000000000000 ≤ k ∨ k ≤ -15000000000000) → ns.contains k = false := fun k hk => by
    rw [Bool.eq_false_iff]
    intro z
    have := h k (by simpa using z)
    omega
  exact ⟨fun a b ha hb => by simp only [no a (.inl ha), no b (.inl hb)], fun a b ha hb => by simp only [no a (.inr ha), no b (.inr hb)]⟩
abbrev s_samples_right : Stmt := top 23
theorem sc_samples_right : FnScope ["_law_pen_here", "_law_made_here", "_law_count", "_law_found", "_law_few", "_law_rest"] ["_law_pen_here", "_law_made_here"] (defScope s_samples_right) := ⟨rfl, rfl, rfl, by decide +kernel, rfl, by decide +kernel, by decide +kernel⟩
def sp_samples_right (C : Addr) : Sp := fun vs H Q _ => ∃ p L n a ps, vs = [.ref p, .ref a] ∧ Pen H p L n ∧ n ≤ 9000 ∧ Rng C H a ps ∧ BndB 10000000000000 (hasL ps) ∧ ps.length ≤ 60 ∧ ∀ H', Keep H H' → Pen H' p L (n + 1) → Q (.bl true) H'
theorem ok_samples_right {f f1 f3 f6 : Addr} {fd fd1 fd3 fd6 : FuncData} (F : Fun K "_law_samples_right" "_law_samples_right" s_samples_right f fd) (T : ClsT K mg C fI fE) (CM : ClsM K C mc pe pb po pf ge gb go gf fO) (CN : ClsN K C fA fS fW fM) (CK : ClsK K C fN fB) (R : ClsR P w K mg base C ge gb go gf fO fE)
    (R_sub : FnR P w K mg base CX0 5 fS (mSub C)) (R_is_within : FnR P w K mg base CX0 6 fW (mWi C)) (R_sample : FnR P w K mg base CX0 4 fM (mSam C)) (R_bool : FnR P w K mg base CX0 1 fB (fun vs H Q E => sp_bool C (vs ++ []) H Q E))
    (F_draw : Fun K "_law_draw" "_law_draw" s_draw f1 fd1) (B_draw : Binds K fd1 ["_law_pen_here", "_law_many"] []) (g_draw : mg "_law_draw" = some (.ref f1)) (G_draw : FnOk P w K mg base CX0 1 f1 fd1 ["_law_pen_here", "_law_many"] sp_draw)
    (F_is_like : Fun K "_law_is_like" "_law_is_like" s_is_like f3 fd3) (B_is_like : Binds K fd3 ["_law_one", "_law_other"] []) (g_is_like : mg "_law_is_like" = some (.ref f3)) (G_is_like : FnOk P w K mg base CX0 7 f3 fd3 ["_law_one", "_law_other"] (sp_is_like C))
    (F_of_list : Fun K "_law_of_list" "_law_of_list" s_of_list f6 fd6) (B_of_list : Binds K fd6 ["_law_numbers"] []) (g_of_list : mg "_law_of_list" = some (.ref f6)) (G_of_list : FnOk P w K mg base CX0 6 f6 fd6 ["_law_numbers"] (sp_of_list C))
    (z_bool : mg "bool" = none) (z_len : mg "len" = none) : FnOk P w K mg base CX0 8 f fd ["_law_pen_here", "_law_made_here"] (sp_samples_right C) := by
  have R_or := R.or
  refine F.ok sc_samples_right (fun vs H Q E h => ?_) (fun cdv A outer s H vs Q E hr h => ?_)
  · obtain ⟨p, L, n, a, ps, rfl, _⟩ := h
    rfl
  · obtain ⟨p, L, n, a, ps, rfl, hp, hn, ra, hb, hz, q⟩ := h
    refine ⟨_, (pss_cons (ps_set (i := 2) sc_samples_right.nd rfl (Or.inl rfl) (pe_op op_add pe_int (pe_call G_draw (hr.mono (by decide)) rfl g_draw F_draw.kp B_draw .nil pass0 (pa_cons (pv 0) (pa_cons pe_int pa_nil)))))
 (pss_cons (ps_set (i := 3) sc_samples_right.nd rfl (Or.inl rfl) (pe_methR (pv 1) T.cl CN.sample R_sample (hr.mono (by decide)) pass0 (pa_cons (pv 2) pa_nil)))
 (pss_cons (ps_set (i := 4) sc_samples_right.nd rfl (Or.inl rfl) (pe_call G_of_list (hr.mono (by decide)) rfl g_of_list F_of_list.kp B_of_list .nil pass0 (pa_cons (pv 3) pa_nil)))
 (pss_cons (ps_if (PW.pt (pw_or (pt_not (pt_val (pe_methR (pv 4) T.cl CN.is_within R_is_within (hr.mono (by decide)) pass0 (pa_cons (pv 1) pa_nil)))) (pw_or1 (pt_cmpR op_ne (pe_callTy (call_boolO R_bool (hr.mono (by decide)) CK.boF CK.boI) (by rfl) z_bool (by decide +kernel) (pa_cons (pv 4) pa_nil)) (pe_callTy (call_boolO R_bool (hr.mono (by decide)) CK.boF CK.boI) (by rfl) z_bool (by decide +kernel) (pa_cons (pv 1) pa_nil)) (nomark _)))))
 (pss_one (ps_ret pe_bl))
 pss_nil)
 (pss_cons (ps_if (pt_cmpR op_lt (pe_callB call_len_seq (by rfl) z_len PySem.boot_len (pa_cons (pv 3) pa_nil)) (pv 2) (nomark _))
 (pss_one (ps_ret (pe_and (pe_call G_is_like (hr.mono (by decide)) rfl g_is_like F_is_like.kp B_is_like .nil pass0 (pa_cons (pv 4) (pa_cons (pv 1) pa_nil))) (pe_one (pe_cmpR (op_eqD hr.units) (pe_methR (pv 4) T.cl CN.sample R_sample (hr.mono (by decide)) pass0 (pa_cons (pv 2) pa_nil)) (pv 3) (nomark _))))))
 pss_nil)
 (pss_cons (ps_set (i := 5) sc_samples_right.nd rfl (Or.inl rfl) (pe_op (op_own (op := .Sub) R_sub (hr.mono (by decide)) CM.self CN.subF CN.subI) (pv 1) (pv 4)))
 (pss_one (ps_ret (pe_and (pe_cmpR (op_eqD hr.units) (pe_slice sl_list (pe_methR (pv 1) T.cl CN.sample R_sample (hr.mono (by decide)) pass0 (pa_cons (pe_op op_add (pv 2) pe_int) pa_nil)) (po_some (pv 2)) po_none) (pe_methR (pv 5) T.cl CN.sample R_sample (hr.mono (by decide)) pass0 (pa_cons pe_int pa_nil)) (nomark _)) (pe_one (pe_call G_is_like (hr.mono (by decide)) rfl g_is_like F_is_like.kp B_is_like .nil pass0 (pa_cons (pe_op (op_own (op := .BitOr) R_or (hr.mono (by decide)) CM.self CM.orF CM.orI) (pv 5) (pv 4)) (pa_cons (pv 1) pa_nil))))))))))))), ?_⟩
    have hbB : Bnd (hasL ps) := hb.mono (by decide)
    walk_at "rd"
    refine ⟨p, L, n, 50, rfl, hp, by omega, by decide, by decide, fun dd H1 d0 d1 k1 p1 => ?_⟩
    obtain ⟨c, ec⟩ : ∃ c : Nat, 1 + dd = (c : Int) := ⟨(1 + dd).toNat, by omega⟩
    have ra1 := ra.keep k1
    with_reducible refine i_rI0 ?_
    rw [ec]
    with_reducible refine i_name ?_
    with_reducible refine i_seq ?_
    with_reducible refine i_asg ?_
    refine ev_samV (c := c) (ev_var (n := 60) rfl ra1 hz) (by decide) hbB (by omega) (fun H Q h => ⟨_, rfl, h⟩) (Same.refl _) fun d H2 out nd s2 h2 f2 => ?_
    have ol := f2.len
    walk_at "rd"
    refine ⟨d, out, rfl, h2, by omega, fun r H3 qs s3 hr3 hm3 hz3 => ?_⟩
    have t3 := same_tr s2 s3
    have ra3 := ra1.up t3
    have EA : ∀ {σ : L2.St}, σ[1]? = some (some (.ref a)) → Ev C (tVar 1) σ H3 (hasL ps) 60 := fun e => ev_var e ra3 (by omega)
    have EF : ∀ {σ : L2.St}, σ[4]? = some (some (.ref r)) → Ev C (tVar 4) σ H3 (hasL qs) 60 := fun e => ev_var e hr3 (by omega)
    have hsub : ∀ k, hasL qs k = true → hasL ps k = true := fun k hk => by
      rw [hm3 k] at hk
      exact (f2.mem k (by simpa using hk)).1
    have bF : Bnd (hasL qs) := bnd_eq (bnd_contains (sample_bd hb f2 (by omega))) hm3
    with_reducible refine i_name ?_
    with_reducible refine i_seq ?_
    with_reducible refine i_ifS ?_
    with_reducible refine i_or ?_
    with_reducible refine i_not ?_
    refine i_test (ev_wiV (EF rfl) (EA rfl) (by decide) (Same.refl _) fun c1 H4 hc4 s4 => ⟨c1, rfl, ?_⟩)
    have e1 : c1 = true := hc4.mpr hsub
    subst e1
    refine iteF ?_
    refine i_test (i_op (ev_boolV (EF rfl) s4 fun b1 H5 hb1 s5 => ev_boolV (EA rfl) s5 fun b2 H6 hb2 s6 => ?_))
    have eb : b1 = b2 := by
      rw [Bool.eq_iff_iff, hb1, hb2]
      constructor
      · rintro ⟨k, hk⟩
        exact ⟨k, hsub k hk⟩
      · rintro ⟨k, hk⟩
        cases out with
        | nil =>
          have := (f2.full k hk (place_nonneg k) (by simp)).1
          simp at this
          omega
        | cons x xs => exact ⟨x, by rw [hm3 x]; simp⟩
    subst eb
    refine i_rNe rfl ⟨_, rfl, ite_nd (fun h => absurd rfl h) (fun _ => ?_)⟩
    have h26 : H6 d = some (.lst (out.map V.int)) := s6 _ _ (s3 _ _ h2)
    have k16 : Keep H H6 := k1.trans (Same.keep (same_tr t3 s6))
    have p6 := p1.up (same_tr t3 s6)
    walk_at "rd"
    rw [List.length_map]
    refine ite_d (fun hlt => ?_) (fun hge => ?_)
    · have eqp : qs = ps := canon_unique hr3.canon ra3.canon fun k => by
        rw [Bool.eq_iff_iff]
        refine ⟨hsub k, fun hk => ?_⟩
        rw [hm3 k]
        by_cases z : k ∈ out
        · simpa using z
        · have := (f2.full k hk (place_nonneg k) z).1
          omega
      have hr6 := hr3.up s6
      rw [eqp] at hr6
      walk_at "rd"
      refine ⟨r, a, ps, rfl, hr6, ra3.up s6, by omega, fun H7 s7 => ?_⟩
      refine ⟨true, rfl, iteT ?_⟩
      refine i_op (ev_samV (c := c) (EF rfl) (by decide) bF (by omega) (fun H Q h => ⟨_, rfl, h⟩) (same_tr s6 s7) fun d2 H8 out2 nd2 s8 h8 f8 => ?_)
      rw [eqp] at f8
      have eo : out2 = out := fst_unique place_inj f8 f2
      subst eo
      refine ⟨_, rfl, .list (out2.map PyData.int), .list (out2.map PyData.int), .lst (SqL.of h8) (dps_ints out2), .lst (SqL.of (s8 _ _ (s7 _ _ (s6 _ _ (s3 _ _ h2))))) (dps_ints out2), shaped_ints out2, shaped_ints out2, ?_⟩
      rw [show PyData.eqv (.list (out2.map PyData.int)) (.list (out2.map PyData.int)) = decide (out2 = out2) from eqv_ints out2 out2, decide_eq_true rfl]
      have t38 := same_tr t3 (same_tr s6 (same_tr s7 s8))
      exact q H8 (k1.trans (Same.keep t38)) (p1.up t38)
    · have olc : out.length = c := by omega
      with_reducible refine i_next ?_
      with_reducible refine i_seq ?_
      with_reducible refine i_asg ?_
      refine ev_sub (EA rfl) (EF rfl) (by decide) H6 s6 _ fun rr H7 rs s7 hrr hmr hzr => ?_
      have s37 := same_tr s6 s7
      have ER : ∀ {σ : L2.St}, σ[5]? = some (some (.ref rr)) → Ev C (tVar 5) σ H7 (hasL rs) 130 := fun e => ev_var e hrr (by omega)
      have EB : ∀ {σ : L2.St}, σ[1]? = some (some (.ref a)) → Ev C (tVar 1) σ H7 (hasL ps) 60 := fun e => ev_var e (ra3.up s37) (by omega)
      have EG : ∀ {σ : L2.St}, σ[4]? = some (some (.ref r)) → Ev C (tVar 4) σ H7 (hasL qs) 60 := fun e => ev_var e (hr3.up s37) (by omega)
      have bR : Bnd (hasL rs) := bnd_eq (bnd_and hbB (bnd_not bF)) hmr
      with_reducible refine i_name ?_
      with_reducible refine i_ret ?_
      with_reducible refine i_andV ?_
      with_reducible refine i_op ?_
      unfold tSl
      refine ev_samV (c := c + 3) (EB rfl) (by decide) hbB (by omega) (fun H Q h => ⟨_, rfl, _, _, rfl, rfl, h⟩) (Same.refl _) fun d3 H8 out3 nd3 s8 h8 f8 => ?_
      have eo : out = out3.take c := fst_unique place_inj f2 (fst_take f8 (by omega))
      have l3 : c ≤ out3.length := by
        have := congrArg List.length eo
        rw [List.length_take] at this
        omega
      refine ⟨_, rfl, (c : Int), rfl, d3, _, rfl, SqL.of h8, fun y hy => ?_⟩
      rw [cut_drop _ _ (by rw [List.length_map]; exact l3), ← List.map_drop]
      obtain ⟨H9, e9, s9, h9⟩ := new_heap (o := .lst ((out3.drop c).map V.int)) hy
      rw [e9]
      have s79 := same_tr s8 s9
      refine ev_samV (c := 3) (ER rfl) (by decide) bR (by omega) (fun H Q h => h) s79 fun d4 H10 out4 nd4 s10 h10 f10 => ?_
      have hfun : (fun n => hasL ps n && !(out3.take c).contains n) = hasL rs := funext fun n => by
        rw [hmr n]
        simp only [hm3 n, eo]
      have f8' := fst_drop f8 l3
      rw [hfun] at f8'
      have e34 : out3.drop c = out4 := fst_unique place_inj f8' f10
      subst e34
      refine ⟨.list ((out3.drop c).map PyData.int), .list ((out3.drop c).map PyData.int), .lst (SqL.of (s10 _ _ h9)) (dps_ints _), .lst (SqL.of h10) (dps_ints _), shaped_ints _, shaped_ints _, ?_⟩
      rw [show PyData.eqv (.list ((out3.drop c).map PyData.int)) (.list ((out3.drop c).map PyData.int)) = decide (out3.drop c = out3.drop c) from eqv_ints _ _, decide_eq_true rfl]
      refine ⟨true, rfl, iteT ?_⟩
      refine i_call (i_cons (ev_or (ER rfl) (EG rfl) (by decide) H10 (same_tr s79 s10) _ fun u H11 us s11 hu hmu hzu => i_cons ⟨_, rfl, i_nil ?_⟩))
      have s711 := same_tr s79 (same_tr s10 s11)
      have ra11 := (ra3.up s37).up s711
      have eu : us = ps := canon_unique hu.canon ra11.canon fun k => by
        rw [hmu k]
        simp only [hmr k]
        cases e : hasL qs k with
        | true => simp [hsub k e]
        | false => simp
      rw [eu] at hu
      refine ⟨u, a, ps, rfl, hu, ra11, by omega, fun H12 s12 => ?_⟩
      have t312 := same_tr t3 (same_tr s37 (same_tr s711 s12))
      exact q H12 (k1.trans (Same.keep t312)) (p1.up t312)
end
end Spk

set_option Elab.async false
set_option linter.all false
set_option maxRecDepth 100000
set_option maxHeartbeats 1000000
namespace Spk
open PySem L2
local macro_rules | `(tactic| walk_at "rd") => `(tactic| repeat (first
  | with_reducible refine i_seq ?_ | with_reducible refine i_asg ?_ | with_reducible refine i_ret ?_ | with_reducible refine i_ifS ?_ | with_reducible refine i_if ?_
  | with_reducible refine i_for ?_ | with_reducible refine i_iL ?_ | with_reducible refine i_iT ?_ | with_reducible refine i_ckw ?_ | with_reducible refine i_cm ?_ | with_reducible refine And.intro (rfl : V.ref _ = V.ref _) ?_ | with_reducible refine i_rng1 ?_ | with_reducible refine i_bm ?_ | with_reducible refine i_bm0 ?_
  | with_reducible refine i_drop ?_ | with_reducible refine i_next ?_
  | with_reducible refine i_var rfl ?_ | with_reducible refine i_c ?_ | with_reducible refine i_op ?_ | with_reducible refine i_un ?_ | with_reducible refine i_name ?_
  | with_reducible refine i_rI0 ?_ | with_reducible refine i_rU ?_ | with_reducible refine i_rEq rfl ?_ | with_reducible refine i_rNe rfl ?_
  | with_reducible refine i_test ?_ | with_reducible refine i_tB ?_ | with_reducible refine i_and ?_ | with_reducible refine i_or ?_ | with_reducible refine i_not ?_
  | with_reducible refine i_andV ?_ | with_reducible refine i_orV ?_ | with_reducible refine i_notV ?_
  | with_reducible refine i_cons ?_ | with_reducible refine i_nil ?_ | with_reducible refine i_cb ?_ | with_reducible refine i_call ?_ | with_reducible refine i_bl ?_
  | with_reducible refine i_tup ?_ | with_reducible refine i_lst ?_ | with_reducible refine i_par ?_ | with_reducible refine i_gcons ?_ | with_reducible refine i_gnil ?_
  | with_reducible refine And.intro (rfl : V.non = V.non) ?_ | with_reducible refine i_ixT (by assumption) rfl ?_ | with_reducible refine i_ixL (by assumption) rfl ?_ | with_reducible refine i_gtup (by assumption) rfl ?_
  | with_reducible refine i_gsub ?_
  | with_reducible refine Or.inl (Exists.intro _ (And.intro (rfl : [V.int _] = [V.int _]) ?_)) | with_reducible refine Exists.intro _ (And.intro (rfl : [V.int _] = [V.int _]) ?_)
  | with_reducible refine Or.inr (Exists.intro _ (And.intro (rfl : [V.bl _] = [V.bl _]) ?_))
  | with_reducible refine Exists.intro _ (Exists.intro _ (And.intro (rfl : [V.int _, V.int _] = [V.int _, V.int _]) ?_))
  | with_reducible refine Exists.intro _ (Exists.intro _ (And.intro (rfl : [V.ref _] = [V.ref _]) (And.intro (Or.inl (SqL.of (by assumption))) ?_)))
  | with_reducible refine i_rI (show (0 : Int) < _ by assumption) ?_ | with_reducible refine i_rI (show (0 : Int) < _ by decide) ?_
  | with_reducible refine i_rI (pow_ok (Nat.le_of_ble_eq_true rfl) (Nat.le_of_ble_eq_true rfl)) ?_
  | with_reducible refine i_rI (cmulL rfl) ?_))
section
variable {P : Program} {w : World} {K : PySem.W.Frag} {mg : Str → Option Value} {base : Heap} {C fI fE : Addr} {mc : Value} {pe pb po pf ge gb go gf fO fA fS fW fM fN fB : Addr}
/-- a set that the law looks at -/
def One (C : Addr) (H : Hp) (v : V) : Prop := ∃ r ps, v = .ref r ∧ Rng C H r ps ∧ BndB 10000000000000 (hasL ps) ∧ ps.length ≤ 30
theorem One.up {H H' : Hp} {v : V} (e : Same H H') (h : One C H v) : One C H' v := let ⟨r, ps, a, b, c⟩ := h; ⟨r, ps, a, b.up e, c⟩
theorem One.keep {H H' : Hp} {v : V} (e : Keep H H') (h : One C H v) : One C H' v := let ⟨r, ps, a, b, c⟩ := h; ⟨r, ps, a, b.keep e, c⟩
abbrev s_law : Stmt := top 24
theorem sc_law : FnScope ["_law_script", "_law_pen_here", "_law_turn", "_law_made_here", "_law_other", "_law_small", "_law_one"] ["_law_script"] (defScope s_law) := ⟨rfl, rfl, rfl, by decide +kernel, rfl, by decide +kernel, by decide +kernel⟩
structure LInv (a p L : Addr) (i : Nat) (σ : L2.St) (H : Hp) : Prop where
  ex : ∃ (x2 x3 x4 x5 x6 : Option V), σ = [some (.ref a), some (.ref p), x2, x3, x4, x5, x6] ∧ Pen H p L (1700 * i)
structure LTwo (H0 : Hp) (a p L : Addr) (n : Nat) (x2 x3 x4 x5 : Option V) (i : Nat) (σ : L2.St) (H : Hp) : Prop where
  ex : ∃ (x6 : Option V), σ = [some (.ref a), some (.ref p), x2, x3, x4, x5, x6] ∧ Keep H0 H ∧ Pen H p L (n + 200 * i)
def sp_law (K : PySem.W.Frag) : Sp := fun vs H Q _ => ∃ a, ∃ ns : List Int, vs = [.ref a] ∧ SqL K H a (ns.map V.int) ∧ ns.length ≤ 63 ∧ ∀ H', Q (.bl true) H'
theorem ok_law {f f1 f2 f3 f4 f5 f6 : Addr} {fd fd1 fd2 fd3 fd4 fd5 fd6 : FuncData} (F : Fun K "law" "law" s_law f fd) (T : ClsT K mg C fI fE) (CM : ClsM K C mc pe pb po pf ge gb go gf fO) (CN : ClsN K C fA fS fW fM) (R : ClsR P w K mg base C ge gb go gf fO fE)
    (R_and : FnR P w K mg base CX0 5 fA (mAnd C)) (R_sub : FnR P w K mg base CX0 5 fS (mSub C))
    (F_pen : Fun K "_law_pen" "_law_pen" s_pen f1 fd1) (B_pen : Binds K fd1 ["_law_script"] []) (g_pen : mg "_law_pen" = some (.ref f1)) (G_pen : FnOk P w K mg base CX0 1 f1 fd1 ["_law_script"] (sp_pen K))
    (F_draw : Fun K "_law_draw" "_law_draw" s_draw f2 fd2) (B_draw : Binds K fd2 ["_law_pen_here", "_law_many"] []) (g_draw : mg "_law_draw" = some (.ref f2)) (G_draw : FnOk P w K mg base CX0 1 f2 fd2 ["_law_pen_here", "_law_many"] sp_draw)
    (F_stretches : Fun K "_law_stretches" "_law_stretches" s_stretches f3 fd3) (B_stretches : Binds K fd3 ["_law_pen_here", "_law_most"] []) (g_stretches : mg "_law_stretches" = some (.ref f3)) (G_stretches : FnOk P w K mg base CX0 3 f3 fd3 ["_law_pen_here", "_law_most"] sp_stretches)
    (F_made : Fun K "_law_made" "_law_made" s_made f4 fd4) (B_made : Binds K fd4 ["_law_pen_here", "_law_stretches_here"] []) (g_made : mg "_law_made" = some (.ref f4)) (G_made : FnOk P w K mg base CX0 6 f4 fd4 ["_law_pen_here", "_law_stretches_here"] (sp_made C))
    (F_parts_right : Fun K "_law_parts_right" "_law_parts_right" s_parts_right f5 fd5) (B_parts_right : Binds K fd5 ["_law_pen_here", "_law_made_here"] []) (g_parts_right : mg "_law_parts_right" = some (.ref f5)) (G_parts_right : FnOk P w K mg base CX0 8 f5 fd5 ["_law_pen_here", "_law_made_here"] (sp_parts_right C))
    (F_samples_right : Fun K "_law_samples_right" "_law_samples_right" s_samples_right f6 fd6) (B_samples_right : Binds K fd6 ["_law_pen_here", "_law_made_here"] []) (g_samples_right : mg "_law_samples_right" = some (.ref f6)) (G_samples_right : FnOk P w K mg base CX0 8 f6 fd6 ["_law_pen_here", "_law_made_here"] (sp_samples_right C))
    (g_C : mg "Ranges" = some (.ref C)) (z_range : mg "range" = none) : FnOk P w K mg base CX0 9 f fd ["_law_script"] (sp_law K) := by
  have R_empty := R.empty
  have R_full := R.full
  have R_between := R.between
  refine F.ok sc_law (fun vs H Q E h => ?_) (fun cdv A outer s H vs Q E hr h => ?_)
  · obtain ⟨a, ns, rfl, _⟩ := h
    rfl
  · obtain ⟨a, ns, rfl, ha, hn, q⟩ := h
    refine ⟨_, (pss_cons (ps_set (i := 1) sc_law.nd rfl (Or.inl rfl) (pe_call G_pen (hr.mono (by decide)) rfl g_pen F_pen.kp B_pen .nil pass0 (pa_cons (pv 0) pa_nil)))
 (pss_cons (ps_for PassesOwn.never rfl (pi_range1 (by rfl) z_range (pa_cons pe_int pa_nil)) (pg_name (i := 2) sc_law.nd rfl (Or.inl rfl))
 (pss_cons (ps_set (i := 3) sc_law.nd rfl (Or.inl rfl) (pe_call G_made (hr.mono (by decide)) rfl g_made F_made.kp B_made .nil pass0 (pa_cons (pv 1) (pa_cons (pe_call G_stretches (hr.mono (by decide)) rfl g_stretches F_stretches.kp B_stretches .nil pass0 (pa_cons (pv 1) (pa_cons pe_int pa_nil))) pa_nil))))
 (pss_cons (ps_set (i := 4) sc_law.nd rfl (Or.inl rfl) (pe_call G_made (hr.mono (by decide)) rfl g_made F_made.kp B_made .nil pass0 (pa_cons (pv 1) (pa_cons (pe_call G_stretches (hr.mono (by decide)) rfl g_stretches F_stretches.kp B_stretches .nil pass0 (pa_cons (pv 1) (pa_cons pe_int pa_nil))) pa_nil))))
 (pss_cons (ps_set (i := 5) sc_law.nd rfl (Or.inl rfl) (pe_op (op_own (op := .BitAnd) R_and (hr.mono (by decide)) CM.self CN.andF CN.andI) (pv 3) (ClX.pe_cmeth (pe_glob rfl g_C (relR _)) CM.rd CM.between R_between (hr.mono (by decide)) pass0 (pa_cons (pe_op op_sub (pe_op op_sub pe_int pe_int) (pe_call G_draw (hr.mono (by decide)) rfl g_draw F_draw.kp B_draw .nil pass0 (pa_cons (pv 1) (pa_cons pe_int pa_nil)))) (pa_cons (pe_call G_draw (hr.mono (by decide)) rfl g_draw F_draw.kp B_draw .nil pass0 (pa_cons (pv 1) (pa_cons pe_int pa_nil))) pa_nil)))))
 (pss_one (ps_for PassesOwn.never rfl (pi_list (pe_lst (pa_cons (pv 3) (pa_cons (pv 4) (pa_cons (pe_op (op_own (op := .Sub) R_sub (hr.mono (by decide)) CM.self CN.subF CN.subI) (pv 3) (pv 4)) (pa_cons (pv 5) (pa_cons (pe_op (op_own (op := .Sub) R_sub (hr.mono (by decide)) CM.self CN.subF CN.subI) (pe_cmeth0 (pe_glob rfl g_C (relR _)) CM.rd CM.full R_full (hr.mono (by decide)) pass0) (pv 5)) (pa_cons (pe_cmeth0 (pe_glob rfl g_C (relR _)) CM.rd CM.full R_full (hr.mono (by decide)) pass0) (pa_cons (pe_cmeth0 (pe_glob rfl g_C (relR _)) CM.rd CM.empty R_empty (hr.mono (by decide)) pass0) pa_nil))))))))) (pg_name (i := 6) sc_law.nd rfl (Or.inl rfl))
 (pss_one (ps_if (PW.pt (pw_or (pt_not (pt_val (pe_call G_parts_right (hr.mono (by decide)) rfl g_parts_right F_parts_right.kp B_parts_right .nil pass0 (pa_cons (pv 1) (pa_cons (pv 6) pa_nil))))) (pw_or1 (pt_not (pt_val (pe_call G_samples_right (hr.mono (by decide)) rfl g_samples_right F_samples_right.kp B_samples_right .nil pass0 (pa_cons (pv 1) (pa_cons (pv 6) pa_nil))))))))
 (pss_one (ps_ret pe_bl))
 pss_nil))))))))
 (pss_one (ps_ret pe_bl)))), ?_⟩
    walk_at "rd"
    refine ⟨a, ns, rfl, ha, hn, fun p L H1 s1 hp => ?_⟩
    walk_at "rd"
    refine ⟨by decide, by decide, for_range (lo := 0) (n := 3) (LInv a p L) ⟨_, _, _, _, _, rfl, hp⟩ ?_ ?_⟩
    · rintro i σ H3 hi ⟨x2, x3, x4, x5, x6, rfl, p3⟩
      walk_at "rd"
      refine ⟨p, L, _, 6, rfl, p3, by omega, by decide, by decide, fun l1 H4 s1 hl10 k4 p4 sl1 ne1 bd1 hz1 => ?_⟩
      walk_at "rd"
      refine ⟨p, L, _, l1, s1, rfl, p4, by omega, sl1, by omega, ne1, fun ra H5 pa k5 p5 hra hma hza => ?_⟩
      walk_at "rd"
      refine ⟨p, L, _, 3, rfl, p5, by omega, by decide, by decide, fun l2 H6 s2 hl20 k6 p6 sl2 ne2 bd2 hz2 => ?_⟩
      walk_at "rd"
      refine ⟨p, L, _, l2, s2, rfl, p6, by omega, sl2, by omega, ne2, fun rb H7 pb k7 p7 hrb hmb hzb => ?_⟩
      have bA : BndB 10000000000000 (hasL pa) := bnd_eq (bnd_list bd1) hma
      have bB : BndB 10000000000000 (hasL pb) := bnd_eq (bnd_list bd2) hmb
      have hra7 := (hra.keep k6).keep k7
      walk_at "rd"
      refine ⟨p, L, _, 9, rfl, p7, by omega, by decide, by decide, fun u1 H8 u10 u11 k8 p8 => ?_⟩
      walk_at "rd"
      refine ⟨p, L, _, 18, rfl, p8, by omega, by decide, by decide, fun u2 H9 u20 u21 k9 p9 => ?_⟩
      walk_at "rd"
      refine ⟨some (0 - 9 - u1), some u2, rfl, fun o H10 qs s10 ho hm10 hz10 => ?_⟩
      have ra10 := ((hra7.keep k8).keep k9).up s10
      have rb10 := ((hrb.keep k8).keep k9).up s10
      have p10 := p9.up s10
      have bO : BndB 10000000000000 (hasL qs) := bnd_eq (bnd_has1 (s := (some (0 - 9 - u1), some u2)) (fun k hk => by cases hk; omega) (fun k hk => by cases hk; omega)) hm10
      obtain ⟨dx1, t1, i1, _⟩ := id ra10
      obtain ⟨dx2, t2, i2, _⟩ := id ho
      walk_at "rd"
      refine ⟨ra, o, _, _, _, _, rfl, rfl, i1, i2, ra, o, pa, qs, rfl, ra10, ho, by omega, fun sm H11 pc s11 hsm hmc hzc => ?_⟩
      have bC : BndB 10000000000000 (hasL pc) := bnd_eq (bnd_and bA bO) hmc
      have ra11 := ra10.up s11
      have rb11 := rb10.up s11
      have p11 := p10.up s11
      obtain ⟨dx3, t3, i3, _⟩ := id ra11
      obtain ⟨dx4, t4, i4, _⟩ := id rb11
      walk_at "rd"
      refine ⟨ra, rb, _, _, _, _, rfl, rfl, i3, i4, ra, rb, pa, pb, rfl, ra11, rb11, by omega, fun r3 H12 pd s12 hr3 hmd hzd => ?_⟩
      have bD : BndB 10000000000000 (hasL pd) := bnd_eq (bnd_and bA (bnd_not bB)) hmd
      walk_at "rd"
      refine ⟨rfl, fun rf H13 s13 hrf => ?_⟩
      have sm13 := hsm.up (same_tr s12 s13)
      obtain ⟨dx5, t5, i5, _⟩ := id hrf
      obtain ⟨dx6, t6, i6, _⟩ := id sm13
      walk_at "rd"
      refine ⟨rf, sm, _, _, _, _, rfl, rfl, i5, i6, rf, sm, _, pc, rfl, hrf, sm13, by simp; omega, fun r5 H14 pf' s14 hr5 hmf hzf => ?_⟩
      have bF : BndB 10000000000000 (hasL pf') := bnd_eq (bnd_and (bnd_const true) (bnd_not bC)) fun n => by rw [hmf n]; simp [hasL, has1]
      simp only [List.length_cons, List.length_nil] at hzf
      walk_at "rd"
      refine ⟨rfl, fun r6 H15 s15 hr6 => ?_⟩
      walk_at "rd"
      refine ⟨rfl, fun r7 H16 s16 hr7 => ?_⟩
      walk_at "rd"
      refine ⟨size_of (Nat.le_of_ble_eq_true rfl), fun y hy => ?_⟩
      obtain ⟨H17, e17, s17, h17⟩ := new_heap (o := .lst [.ref ra, .ref rb, .ref r3, .ref sm, .ref r5, .ref r6, .ref r7]) hy
      rw [e17]
      have t1117 := same_tr s12 (same_tr s13 (same_tr s14 (same_tr s15 (same_tr s16 s17))))
      have all : ∀ v, v ∈ [V.ref ra, .ref rb, .ref r3, .ref sm, .ref r5, .ref r6, .ref r7] → One C H17 v := by
        intro v hv
        simp only [List.mem_cons, List.not_mem_nil, or_false] at hv
        rcases hv with rfl | rfl | rfl | rfl | rfl | rfl | rfl
        · exact ⟨ra, pa, rfl, ra11.up t1117, bA, by omega⟩
        · exact ⟨rb, pb, rfl, rb11.up t1117, bB, by omega⟩
        · exact ⟨r3, pd, rfl, hr3.up (same_tr s13 (same_tr s14 (same_tr s15 (same_tr s16 s17)))), bD, by omega⟩
        · exact ⟨sm, pc, rfl, hsm.up t1117, bC, by omega⟩
        · exact ⟨r5, pf', rfl, hr5.up (same_tr s15 (same_tr s16 s17)), bF, by omega⟩
        · exact ⟨r6, _, rfl, hr6.up (same_tr s16 s17), bnd_eq (bnd_const true) fun n => by simp [hasL, has1], by simp⟩
        · exact ⟨r7, _, rfl, hr7.up s17, bnd_const false, by simp⟩
      have pn : penny (.lst [V.ref ra, .ref rb, .ref r3, .ref sm, .ref r5, .ref r6, .ref r7]) = false := rfl
      have hl7 : [V.ref ra, .ref rb, .ref r3, .ref sm, .ref r5, .ref r6, .ref r7].length = 7 := rfl
      generalize [V.ref ra, .ref rb, .ref r3, .ref sm, .ref r5, .ref r6, .ref r7] = L7 at *
      have p17 : Pen H17 p L (1700 * i + 300) := (p11.up t1117).mono (by omega)
      walk_at "rd"
      refine ⟨y, rfl, ⟨_, SqL.of h17⟩, for_list (K := K) (a := y) (xs := L7) (LTwo H17 a p L (1700 * i + 300) _ _ _ _) ⟨_, rfl, Keep.refl _, p17⟩ ?_ ?_ ?_⟩
      · rintro j σ H18 _ ⟨_, _, k18, _⟩
        exact SqL.of (k18 _ _ pn h17)
      · rintro j x σ H18 hx ⟨x6', rfl, k18, p18⟩
        have hj : j < 7 := by
          have := (List.getElem?_eq_some_iff.mp hx).1
          omega
        obtain ⟨r, ps, rfl, hr18, bP, hzp⟩ := (all x (List.mem_of_getElem? hx)).keep k18
        walk_at "rd"
        refine ⟨p, L, _, r, ps, rfl, p18, by omega, hr18, by omega, fun H19 k19 p19 => ?_⟩
        refine ⟨true, rfl, iteF ?_⟩
        walk_at "rd"
        refine ⟨p, L, _, r, ps, rfl, p19, by omega, hr18.keep k19, bP, by omega, fun H20 k20 p20 => ?_⟩
        refine ⟨true, rfl, iteF ?_⟩
        walk_at "rd"
        exact ⟨_, rfl, (k18.trans k19).trans k20, p20.mono (by omega)⟩
      · rintro σ H18 ⟨x6', rfl, k18, p18⟩
        exact ⟨_, _, _, _, _, rfl, p18.mono (by omega)⟩
    · rintro σ H3 ⟨x2, x3, x4, x5, x6, rfl, p3⟩
      walk_at "rd"
      exact q H3
end
end Spk

set_option Elab.async false
set_option linter.all false
set_option maxRecDepth 100000
set_option maxHeartbeats 0
namespace Spk
open PySem L2
/-! ### what the top leaves -/
abbrev at1 (x : Str) : PySem.W.Frag → Addr := fun K => He.ga K x
abbrev atM (m : Str) : PySem.W.Frag → Addr := fun K => He.ma K (He.ga K "Ranges") m
abbrev atC (m : Str) : PySem.W.Frag → Addr := fun K => He5.wf K (He.ga K "Ranges") "classmethod" m
def dfn (a : PySem.W.Frag → Addr) (x q : Str) (st : Stmt) : He5.DefA := ⟨a, x, q, defArgs st, defBody st, defScope st, [], []⟩
def defs : List He5.DefA := [dfn (at1 "start_of") "start_of" "start_of" s_start_of,
  dfn (at1 "joined") "joined" "joined" s_joined,
  dfn (at1 "touches") "touches" "touches" s_touches,
  dfn (at1 "later_end") "later_end" "later_end" s_later_end,
  dfn (at1 "gaps") "gaps" "gaps" s_gaps,
  dfn (at1 "in_parts") "in_parts" "in_parts" s_in_parts,
  dfn (at1 "mirrored") "mirrored" "mirrored" s_mirrored,
  dfn (at1 "opposite") "opposite" "opposite" s_opposite,
  dfn (at1 "first_numbers") "first_numbers" "first_numbers" s_first_numbers,
  dfn (at1 "place_of") "place_of" "place_of" s_place_of,
  dfn (at1 "_law_pen") "_law_pen" "_law_pen" s_pen,
  dfn (at1 "_law_draw") "_law_draw" "_law_draw" s_draw,
  dfn (at1 "_law_end") "_law_end" "_law_end" s_end,
  dfn (at1 "_law_stretches") "_law_stretches" "_law_stretches" s_stretches,
  dfn (at1 "_law_made") "_law_made" "_law_made" s_made,
  dfn (at1 "_law_of_list") "_law_of_list" "_law_of_list" s_of_list,
  dfn (at1 "_law_gaps") "_law_gaps" "_law_gaps" s_Lgaps,
  dfn (at1 "_law_inner") "_law_inner" "_law_inner" s_inner,
  dfn (at1 "_law_is_like") "_law_is_like" "_law_is_like" s_is_like,
  dfn (at1 "_law_parts_right") "_law_parts_right" "_law_parts_right" s_parts_right,
  dfn (at1 "_law_samples_right") "_law_samples_right" "_law_samples_right" s_samples_right,
  dfn (at1 "law") "law" "law" s_law,
  dfn (atM "__init__") "__init__" "Ranges.__init__" s_Ranges__init,
  dfn (atM "__or__") "__or__" "Ranges.__or__" s_Ranges__or,
  dfn (atM "__and__") "__and__" "Ranges.__and__" s_Ranges__and,
  dfn (atM "__sub__") "__sub__" "Ranges.__sub__" s_Ranges__sub,
  dfn (atM "__eq__") "__eq__" "Ranges.__eq__" s_Ranges__eq,
  dfn (atM "__contains__") "__contains__" "Ranges.__contains__" s_Ranges__contains,
  dfn (atM "__bool__") "__bool__" "Ranges.__bool__" s_Ranges__bool,
  dfn (atM "is_within") "is_within" "Ranges.is_within" s_Ranges_is_within,
  dfn (atM "sample") "sample" "Ranges.sample" s_Ranges_sample,
  dfn (atC "of") "of" "Ranges.of" s_Ranges_of,
  dfn (atC "between") "between" "Ranges.between" s_Ranges_between,
  dfn (atC "full") "full" "Ranges.full" s_Ranges_full,
  dfn (atC "empty") "empty" "Ranges.empty" s_Ranges_empty]
def names : List Str := ["start_of", "joined", "touches", "later_end", "gaps", "in_parts", "mirrored", "opposite", "first_numbers", "place_of", "_law_pen", "_law_draw", "_law_end", "_law_stretches", "_law_made", "_law_of_list", "_law_gaps", "_law_inner", "_law_is_like", "_law_parts_right", "_law_samples_right", "law", "Ranges"]
def kits : List Str := ["abs", "bool", "int", "isinstance", "len", "list", "max", "min", "range", "sorted", "tuple"]
def plain : List He.Fa := names.map He.Fa.glo ++ (kits.map He.Fa.free ++ [.cls "Ranges", .noat "Ranges" "parts", .mkr "Ranges", .meth "Ranges" "__or__", .meth "Ranges" "__and__", .meth "Ranges" "__sub__", .meth "Ranges" "__eq__", .meth "Ranges" "__contains__", .meth "Ranges" "__bool__", .meth "Ranges" "is_within", .meth "Ranges" "sample"])
def six : List String := ["NoneType", "bool", "int", "str", "list", "tuple"]
/-- what else is told of the class -/
def moreB (K : PySem.W.Frag) (C : Addr) : Bool :=
  PySem.W.selfFirst K C && (decide (PySem.W.findIn K (.ref C) "__ne__" = some (some (.builtin "object.__ne__"))) && (decide (PySem.W.subIn K (.ref C) (.type "object") = some true) && ((six.all fun t => decide (PySem.W.subIn K (.ref C) (.type t) = some false)) &&
  ((six.all fun t => decide (PySem.W.kitOne K (.type t) (.ref C) = some false)) && ((six.all fun t => PySem.W.notFirst K C (.type t)) && (decide (PySem.W.findIn K (.ref C) "__class__" = some (some (.builtin "object.__class__"))) &&
  (decide (PySem.W.specialIn K (.builtin "object.__class__") "__get__" = some (some (.builtin "getset_descriptor.__get__"))) && (decide (PySem.W.takesIn K (.builtin "object.__class__") = some true) && (decide (PySem.W.mroIn K C (.type "object") = some true) &&
  (decide (PySem.W.kitOne K (.ref C) (.ref C) = some true) && (PySem.W.readsIn K C (.type "type") && (decide (PySem.W.specialIn K (.ref C) "__getattribute__" = some (some (.builtin "type.__getattribute__"))) && ((["of", "between", "full", "empty"] : List Str).all fun m => He5.wrapB K C "classmethod" "classmethod.__get__" m && PySem.W.fnIn K (He5.wf K C "classmethod" m))))))))))))))
abbrev Seen : Type := Bool × He.AlD
def seenAt (n : Nat) (g : Addr → Option Obj) : Seen := (moreB (He.frG g (He5.asA g n)) (He.ga (He.frG g (He5.asA g n)) "Ranges"), He5.obsA plain defs (He.frG g (He5.asA g n)))
def Told (K : PySem.W.Frag) : Prop := moreB K (He.ga K "Ranges") = true ∧ He5.SaysA plain defs K
def hook (n : Nat) : PySem.W.Hook where
  α := Seen
  obs := fun s => seenAt n s.heap.get?
  val := fun _ => (true, He5.valA defs)
  says := fun _ h => ∃ K : PySem.W.Frag, K.In h ∧ Told K
  of := fun _ _ e => ⟨_, He.frG_in, congrArg Prod.fst e, congrArg Prod.snd e⟩
  keeps := fun _ _ _ ⟨K, hK, c⟩ k => ⟨K, PySem.W.Frag.In.keeps hK k, c⟩
abbrev Rw : PySem.W.OpenRow := PySem.W.OpenLaw.row PySem.Challenge.rw_speaklast_k08_sets_told_by_their_parts
abbrev hk : PySem.W.Hook := hook 6
def obT (s : PySem.W.SharedT) : Seen := seenAt 6 (HandSHeadRun.getT s)
theorem obT_eq (s : PySem.W.SharedT) : obT s = hk.obs s.abs := by
  have e : HandSHeadRun.getT s = s.abs.heap.get? := funext (HandSHeadRun.getT_eq s)
  unfold obT
  rw [e]
  rfl
def loose : List Str := ["Ranges", "start_of", "joined", "touches", "later_end", "gaps", "in_parts", "mirrored", "opposite", "first_numbers", "place_of", "_law_pen", "_law_draw", "_law_end", "_law_stretches", "_law_made", "_law_of_list", "_law_gaps", "_law_inner", "_law_is_like", "_law_parts_right", "_law_samples_right"]
theorem runs (w : World) : HandSHeadRun.RunEq Rw (PySem.W.view Rw.prog [24]) hk obT 4000 loose w := by
  intro os
  kernel_rfl
end Spk

set_option Elab.async false
set_option linter.all false
set_option maxRecDepth 100000
set_option maxHeartbeats 1000000
namespace Spk
open PySem L2
/-! ### the facts by name -/
theorem Told.fa {K : PySem.W.Frag} (c : Told K) (i : Nat) {f : He.Fa} (h : plain[i]? = some f) : f.ok K = true := He5.SaysA.fact c.2 i h
theorem Told.fn {K : PySem.W.Frag} (c : Told K) (i : Nat) {a : PySem.W.Frag → Addr} {x q : Str} {st : Stmt} (h : defs[i]? = some (dfn a x q st)) : ∃ fd, Fun K x q st (a K) fd := by
  obtain ⟨fd, F⟩ := He5.SaysA.def_ c.2 i h
  exact ⟨fd, He5.fun_of F⟩
structure ClsX (K : PySem.W.Frag) (C : Addr) : Prop where
  self : PySem.W.selfFirst K C = true
  ne : PySem.W.findIn K (.ref C) "__ne__" = some (some (.builtin "object.__ne__"))
  ob : PySem.W.subIn K (.ref C) (.type "object") = some true
  sub : ∀ t, t ∈ six → PySem.W.subIn K (.ref C) (.type t) = some false
  kit : ∀ t, t ∈ six → PySem.W.kitOne K (.type t) (.ref C) = some false
  nf : ∀ t, t ∈ six → PySem.W.notFirst K C (.type t) = true
  cls : PySem.W.findIn K (.ref C) "__class__" = some (some (.builtin "object.__class__"))
  get : PySem.W.specialIn K (.builtin "object.__class__") "__get__" = some (some (.builtin "getset_descriptor.__get__"))
  tk : PySem.W.takesIn K (.builtin "object.__class__") = some true
  mro : PySem.W.mroIn K C (.type "object") = some true
  own : PySem.W.kitOne K (.ref C) (.ref C) = some true
  rd : ClX.CRead K C (.type "type")
  met : ∀ m, m ∈ (["of", "between", "full", "empty"] : List Str) → ClX.CMet K C (.type "type") m (He.ma K C m) (He5.wf K C "classmethod" m)
theorem more_ok {K : PySem.W.Frag} {C : Addr} (h : moreB K C = true) : ClsX K C := by
  obtain ⟨h1, h⟩ := He.ba h
  obtain ⟨h2, h⟩ := He.ba h
  obtain ⟨h3, h⟩ := He.ba h
  obtain ⟨h4, h⟩ := He.ba h
  obtain ⟨h5, h⟩ := He.ba h
  obtain ⟨h6, h⟩ := He.ba h
  obtain ⟨h7, h⟩ := He.ba h
  obtain ⟨h8, h⟩ := He.ba h
  obtain ⟨h9, h⟩ := He.ba h
  obtain ⟨h10, h⟩ := He.ba h
  obtain ⟨h11, h⟩ := He.ba h
  obtain ⟨h12, h⟩ := He.ba h
  obtain ⟨h13, h14⟩ := He.ba h
  refine ⟨h1, of_decide_eq_true h2, of_decide_eq_true h3, fun t z => of_decide_eq_true (List.all_eq_true.mp h4 t z), fun t z => of_decide_eq_true (List.all_eq_true.mp h5 t z), fun t z => List.all_eq_true.mp h6 t z, of_decide_eq_true h7, of_decide_eq_true h8, of_decide_eq_true h9, of_decide_eq_true h10, of_decide_eq_true h11, ⟨h12, of_decide_eq_true h13⟩, fun m z => ?_⟩
  obtain ⟨a, b⟩ := He.ba (List.all_eq_true.mp h14 m z)
  exact He5.cmet_of a b
theorem facts {P : Program} {w : World} {K : PySem.W.Frag} {h : Heap} {mg : Str → Option Value} {f : Addr} (X : K.In h) (G : h.Ns mainGlobals mg) (hfa : mg ("law" : Str) = some (.ref f)) (c : Told K) :
    ∃ fd : FuncData, (∀ (s : Shared) (v : Value), BindsTo s fd ⟨[v], []⟩ [("_law_script", v)]) ∧ ∀ base : Heap, K.In base → base.Ns mainGlobals mg → FnOk P w K mg base CX0 9 f fd ["_law_script"] (sp_law K) := by
  have g_start_of := He.glo_ok X G (c.fa 0 (f := .glo "start_of") rfl)
  have g_joined := He.glo_ok X G (c.fa 1 (f := .glo "joined") rfl)
  have g_touches := He.glo_ok X G (c.fa 2 (f := .glo "touches") rfl)
  have g_later_end := He.glo_ok X G (c.fa 3 (f := .glo "later_end") rfl)
  have g_gaps := He.glo_ok X G (c.fa 4 (f := .glo "gaps") rfl)
  have g_in_parts := He.glo_ok X G (c.fa 5 (f := .glo "in_parts") rfl)
  have g_mirrored := He.glo_ok X G (c.fa 6 (f := .glo "mirrored") rfl)
  have g_opposite := He.glo_ok X G (c.fa 7 (f := .glo "opposite") rfl)
  have g_first_numbers := He.glo_ok X G (c.fa 8 (f := .glo "first_numbers") rfl)
  have g_place_of := He.glo_ok X G (c.fa 9 (f := .glo "place_of") rfl)
  have g_pen := He.glo_ok X G (c.fa 10 (f := .glo "_law_pen") rfl)
  have g_draw := He.glo_ok X G (c.fa 11 (f := .glo "_law_draw") rfl)
  have g_end := He.glo_ok X G (c.fa 12 (f := .glo "_law_end") rfl)
  have g_stretches := He.glo_ok X G (c.fa 13 (f := .glo "_law_stretches") rfl)
  have g_made := He.glo_ok X G (c.fa 14 (f := .glo "_law_made") rfl)
  have g_of_list := He.glo_ok X G (c.fa 15 (f := .glo "_law_of_list") rfl)
  have g_Lgaps := He.glo_ok X G (c.fa 16 (f := .glo "_law_gaps") rfl)
  have g_inner := He.glo_ok X G (c.fa 17 (f := .glo "_law_inner") rfl)
  have g_is_like := He.glo_ok X G (c.fa 18 (f := .glo "_law_is_like") rfl)
  have g_parts_right := He.glo_ok X G (c.fa 19 (f := .glo "_law_parts_right") rfl)
  have g_samples_right := He.glo_ok X G (c.fa 20 (f := .glo "_law_samples_right") rfl)
  have g_law := He.glo_ok X G (c.fa 21 (f := .glo "law") rfl)
  have g_C := He.glo_ok X G (c.fa 22 (f := .glo "Ranges") rfl)
  have z_abs := He.free_ok X G (c.fa 23 (f := .free "abs") rfl)
  have z_bool := He.free_ok X G (c.fa 24 (f := .free "bool") rfl)
  have z_int := He.free_ok X G (c.fa 25 (f := .free "int") rfl)
  have z_isinstance := He.free_ok X G (c.fa 26 (f := .free "isinstance") rfl)
  have z_len := He.free_ok X G (c.fa 27 (f := .free "len") rfl)
  have z_list := He.free_ok X G (c.fa 28 (f := .free "list") rfl)
  have z_max := He.free_ok X G (c.fa 29 (f := .free "max") rfl)
  have z_min := He.free_ok X G (c.fa 30 (f := .free "min") rfl)
  have z_range := He.free_ok X G (c.fa 31 (f := .free "range") rfl)
  have z_sorted := He.free_ok X G (c.fa 32 (f := .free "sorted") rfl)
  have z_tuple := He.free_ok X G (c.fa 33 (f := .free "tuple") rfl)
  have cCl := He.cls_ok (c.fa 34 (f := .cls "Ranges") rfl)
  have cNo_parts := He.noat_ok (c.fa 35 (f := .noat "Ranges" "parts") rfl)
  have cMk := He.mkr_ok (c.fa 36 (f := .mkr "Ranges") rfl)
  have m_or := He.meth_ok (c.fa 37 (f := .meth "Ranges" "__or__") rfl)
  have m_and := He.meth_ok (c.fa 38 (f := .meth "Ranges" "__and__") rfl)
  have m_sub := He.meth_ok (c.fa 39 (f := .meth "Ranges" "__sub__") rfl)
  have m_eq := He.meth_ok (c.fa 40 (f := .meth "Ranges" "__eq__") rfl)
  have m_contains := He.meth_ok (c.fa 41 (f := .meth "Ranges" "__contains__") rfl)
  have m_bool := He.meth_ok (c.fa 42 (f := .meth "Ranges" "__bool__") rfl)
  have m_is_within := He.meth_ok (c.fa 43 (f := .meth "Ranges" "is_within") rfl)
  have m_sample := He.meth_ok (c.fa 44 (f := .meth "Ranges" "sample") rfl)
  have cX := more_ok c.1
  obtain ⟨fd_start_of, F_start_of⟩ := c.fn 0 (a := at1 "start_of") (x := "start_of") (q := "start_of") (st := s_start_of) rfl
  have B_start_of := F_start_of.binds (ps := ["stretch"]) fun _ _ _ _ _ _ us hl => match us, hl with | [_], _ => rfl
  obtain ⟨fd_joined, F_joined⟩ := c.fn 1 (a := at1 "joined") (x := "joined") (q := "joined") (st := s_joined) rfl
  have B_joined := F_joined.binds (ps := ["stretches"]) fun _ _ _ _ _ _ us hl => match us, hl with | [_], _ => rfl
  obtain ⟨fd_touches, F_touches⟩ := c.fn 2 (a := at1 "touches") (x := "touches") (q := "touches") (st := s_touches) rfl
  have B_touches := F_touches.binds (ps := ["part", "low"]) fun _ _ _ _ _ _ us hl => match us, hl with | [_, _], _ => rfl
  obtain ⟨fd_later_end, F_later_end⟩ := c.fn 3 (a := at1 "later_end") (x := "later_end") (q := "later_end") (st := s_later_end) rfl
  have B_later_end := F_later_end.binds (ps := ["one", "other"]) fun _ _ _ _ _ _ us hl => match us, hl with | [_, _], _ => rfl
  obtain ⟨fd_gaps, F_gaps⟩ := c.fn 4 (a := at1 "gaps") (x := "gaps") (q := "gaps") (st := s_gaps) rfl
  have B_gaps := F_gaps.binds (ps := ["parts"]) fun _ _ _ _ _ _ us hl => match us, hl with | [_], _ => rfl
  obtain ⟨fd_in_parts, F_in_parts⟩ := c.fn 5 (a := at1 "in_parts") (x := "in_parts") (q := "in_parts") (st := s_in_parts) rfl
  have B_in_parts := F_in_parts.binds (ps := ["parts", "number"]) fun _ _ _ _ _ _ us hl => match us, hl with | [_, _], _ => rfl
  obtain ⟨fd_mirrored, F_mirrored⟩ := c.fn 6 (a := at1 "mirrored") (x := "mirrored") (q := "mirrored") (st := s_mirrored) rfl
  have B_mirrored := F_mirrored.binds (ps := ["parts"]) fun _ _ _ _ _ _ us hl => match us, hl with | [_], _ => rfl
  obtain ⟨fd_opposite, F_opposite⟩ := c.fn 7 (a := at1 "opposite") (x := "opposite") (q := "opposite") (st := s_opposite) rfl
  have B_opposite := F_opposite.binds (ps := ["end"]) fun _ _ _ _ _ _ us hl => match us, hl with | [_], _ => rfl
  obtain ⟨fd_first_numbers, F_first_numbers⟩ := c.fn 8 (a := at1 "first_numbers") (x := "first_numbers") (q := "first_numbers") (st := s_first_numbers) rfl
  have B_first_numbers := F_first_numbers.binds (ps := ["parts", "least", "count"]) fun _ _ _ _ _ _ us hl => match us, hl with | [_, _, _], _ => rfl
  obtain ⟨fd_place_of, F_place_of⟩ := c.fn 9 (a := at1 "place_of") (x := "place_of") (q := "place_of") (st := s_place_of) rfl
  have B_place_of := F_place_of.binds (ps := ["number"]) fun _ _ _ _ _ _ us hl => match us, hl with | [_], _ => rfl
  obtain ⟨fd_pen, F_pen⟩ := c.fn 10 (a := at1 "_law_pen") (x := "_law_pen") (q := "_law_pen") (st := s_pen) rfl
  have B_pen := F_pen.binds (ps := ["_law_script"]) fun _ _ _ _ _ _ us hl => match us, hl with | [_], _ => rfl
  obtain ⟨fd_draw, F_draw⟩ := c.fn 11 (a := at1 "_law_draw") (x := "_law_draw") (q := "_law_draw") (st := s_draw) rfl
  have B_draw := F_draw.binds (ps := ["_law_pen_here", "_law_many"]) fun _ _ _ _ _ _ us hl => match us, hl with | [_, _], _ => rfl
  obtain ⟨fd_end, F_end⟩ := c.fn 12 (a := at1 "_law_end") (x := "_law_end") (q := "_law_end") (st := s_end) rfl
  have B_end := F_end.binds (ps := ["_law_pen_here"]) fun _ _ _ _ _ _ us hl => match us, hl with | [_], _ => rfl
  obtain ⟨fd_stretches, F_stretches⟩ := c.fn 13 (a := at1 "_law_stretches") (x := "_law_stretches") (q := "_law_stretches") (st := s_stretches) rfl
  have B_stretches := F_stretches.binds (ps := ["_law_pen_here", "_law_most"]) fun _ _ _ _ _ _ us hl => match us, hl with | [_, _], _ => rfl
  obtain ⟨fd_made, F_made⟩ := c.fn 14 (a := at1 "_law_made") (x := "_law_made") (q := "_law_made") (st := s_made) rfl
  have B_made := F_made.binds (ps := ["_law_pen_here", "_law_stretches_here"]) fun _ _ _ _ _ _ us hl => match us, hl with | [_, _], _ => rfl
  obtain ⟨fd_of_list, F_of_list⟩ := c.fn 15 (a := at1 "_law_of_list") (x := "_law_of_list") (q := "_law_of_list") (st := s_of_list) rfl
  have B_of_list := F_of_list.binds (ps := ["_law_numbers"]) fun _ _ _ _ _ _ us hl => match us, hl with | [_], _ => rfl
  obtain ⟨fd_Lgaps, F_Lgaps⟩ := c.fn 16 (a := at1 "_law_gaps") (x := "_law_gaps") (q := "_law_gaps") (st := s_Lgaps) rfl
  have B_Lgaps := F_Lgaps.binds (ps := ["_law_parts"]) fun _ _ _ _ _ _ us hl => match us, hl with | [_], _ => rfl
  obtain ⟨fd_inner, F_inner⟩ := c.fn 17 (a := at1 "_law_inner") (x := "_law_inner") (q := "_law_inner") (st := s_inner) rfl
  have B_inner := F_inner.binds (ps := ["_law_parts"]) fun _ _ _ _ _ _ us hl => match us, hl with | [_], _ => rfl
  obtain ⟨fd_is_like, F_is_like⟩ := c.fn 18 (a := at1 "_law_is_like") (x := "_law_is_like") (q := "_law_is_like") (st := s_is_like) rfl
  have B_is_like := F_is_like.binds (ps := ["_law_one", "_law_other"]) fun _ _ _ _ _ _ us hl => match us, hl with | [_, _], _ => rfl
  obtain ⟨fd_parts_right, F_parts_right⟩ := c.fn 19 (a := at1 "_law_parts_right") (x := "_law_parts_right") (q := "_law_parts_right") (st := s_parts_right) rfl
  have B_parts_right := F_parts_right.binds (ps := ["_law_pen_here", "_law_made_here"]) fun _ _ _ _ _ _ us hl => match us, hl with | [_, _], _ => rfl
  obtain ⟨fd_samples_right, F_samples_right⟩ := c.fn 20 (a := at1 "_law_samples_right") (x := "_law_samples_right") (q := "_law_samples_right") (st := s_samples_right) rfl
  have B_samples_right := F_samples_right.binds (ps := ["_law_pen_here", "_law_made_here"]) fun _ _ _ _ _ _ us hl => match us, hl with | [_, _], _ => rfl
  obtain ⟨fd_law, D_law⟩ := He5.SaysA.def_ c.2 21 (d := dfn (at1 "law") "law" "law" s_law) rfl
  have F_law : Fun K "law" "law" s_law (He.ga K "law") fd_law := He5.fun_of D_law
  have bl := FunD.bindsA (ps := ["_law_script"]) D_law fun _ _ _ _ _ _ us hl => match us, hl with | [_], _ => rfl
  obtain ⟨fd_init, F_init⟩ : ∃ fd, Fun K "__init__" "Ranges.__init__" s_Ranges__init (He.ma K (He.ga K "Ranges") "__init__") fd := c.fn 22 (a := atM "__init__") (x := "__init__") (q := "Ranges.__init__") (st := s_Ranges__init) rfl
  have B_init := F_init.binds (ps := ["self", "parts"]) fun _ _ _ _ _ _ us hl => match us, hl with | [_, _], _ => rfl
  obtain ⟨fd_or, F_or⟩ : ∃ fd, Fun K "__or__" "Ranges.__or__" s_Ranges__or (He.ma K (He.ga K "Ranges") "__or__") fd := c.fn 23 (a := atM "__or__") (x := "__or__") (q := "Ranges.__or__") (st := s_Ranges__or) rfl
  have B_or := F_or.binds (ps := ["self", "other"]) fun _ _ _ _ _ _ us hl => match us, hl with | [_, _], _ => rfl
  obtain ⟨fd_and, F_and⟩ : ∃ fd, Fun K "__and__" "Ranges.__and__" s_Ranges__and (He.ma K (He.ga K "Ranges") "__and__") fd := c.fn 24 (a := atM "__and__") (x := "__and__") (q := "Ranges.__and__") (st := s_Ranges__and) rfl
  have B_and := F_and.binds (ps := ["self", "other"]) fun _ _ _ _ _ _ us hl => match us, hl with | [_, _], _ => rfl
  obtain ⟨fd_sub, F_sub⟩ : ∃ fd, Fun K "__sub__" "Ranges.__sub__" s_Ranges__sub (He.ma K (He.ga K "Ranges") "__sub__") fd := c.fn 25 (a := atM "__sub__") (x := "__sub__") (q := "Ranges.__sub__") (st := s_Ranges__sub) rfl
  have B_sub := F_sub.binds (ps := ["self", "other"]) fun _ _ _ _ _ _ us hl => match us, hl with | [_, _], _ => rfl
  obtain ⟨fd_eq, F_eq⟩ : ∃ fd, Fun K "__eq__" "Ranges.__eq__" s_Ranges__eq (He.ma K (He.ga K "Ranges") "__eq__") fd := c.fn 26 (a := atM "__eq__") (x := "__eq__") (q := "Ranges.__eq__") (st := s_Ranges__eq) rfl
  have B_eq := F_eq.binds (ps := ["self", "other"]) fun _ _ _ _ _ _ us hl => match us, hl with | [_, _], _ => rfl
  obtain ⟨fd_contains, F_contains⟩ : ∃ fd, Fun K "__contains__" "Ranges.__contains__" s_Ranges__contains (He.ma K (He.ga K "Ranges") "__contains__") fd := c.fn 27 (a := atM "__contains__") (x := "__contains__") (q := "Ranges.__contains__") (st := s_Ranges__contains) rfl
  have B_contains := F_contains.binds (ps := ["self", "value"]) fun _ _ _ _ _ _ us hl => match us, hl with | [_, _], _ => rfl
  obtain ⟨fd_bool, F_bool⟩ : ∃ fd, Fun K "__bool__" "Ranges.__bool__" s_Ranges__bool (He.ma K (He.ga K "Ranges") "__bool__") fd := c.fn 28 (a := atM "__bool__") (x := "__bool__") (q := "Ranges.__bool__") (st := s_Ranges__bool) rfl
  have B_bool := F_bool.binds (ps := ["self"]) fun _ _ _ _ _ _ us hl => match us, hl with | [_], _ => rfl
  obtain ⟨fd_is_within, F_is_within⟩ : ∃ fd, Fun K "is_within" "Ranges.is_within" s_Ranges_is_within (He.ma K (He.ga K "Ranges") "is_within") fd := c.fn 29 (a := atM "is_within") (x := "is_within") (q := "Ranges.is_within") (st := s_Ranges_is_within) rfl
  have B_is_within := F_is_within.binds (ps := ["self", "b"]) fun _ _ _ _ _ _ us hl => match us, hl with | [_, _], _ => rfl
  obtain ⟨fd_sample, F_sample⟩ : ∃ fd, Fun K "sample" "Ranges.sample" s_Ranges_sample (He.ma K (He.ga K "Ranges") "sample") fd := c.fn 30 (a := atM "sample") (x := "sample") (q := "Ranges.sample") (st := s_Ranges_sample) rfl
  have B_sample := F_sample.binds (ps := ["self", "count"]) fun _ _ _ _ _ _ us hl => match us, hl with | [_, _], _ => rfl
  obtain ⟨fd_of, F_of⟩ : ∃ fd, Fun K "of" "Ranges.of" s_Ranges_of (He5.wf K (He.ga K "Ranges") "classmethod" "of") fd := c.fn 31 (a := atC "of") (x := "of") (q := "Ranges.of") (st := s_Ranges_of) rfl
  obtain ⟨fd_between, F_between⟩ : ∃ fd, Fun K "between" "Ranges.between" s_Ranges_between (He5.wf K (He.ga K "Ranges") "classmethod" "between") fd := c.fn 32 (a := atC "between") (x := "between") (q := "Ranges.between") (st := s_Ranges_between) rfl
  have B_between := F_between.binds (ps := ["cls", "low", "high"]) fun _ _ _ _ _ _ us hl => match us, hl with | [_, _, _], _ => rfl
  obtain ⟨fd_full, F_full⟩ : ∃ fd, Fun K "full" "Ranges.full" s_Ranges_full (He5.wf K (He.ga K "Ranges") "classmethod" "full") fd := c.fn 33 (a := atC "full") (x := "full") (q := "Ranges.full") (st := s_Ranges_full) rfl
  have B_full := F_full.binds (ps := ["cls"]) fun _ _ _ _ _ _ us hl => match us, hl with | [_], _ => rfl
  obtain ⟨fd_empty, F_empty⟩ : ∃ fd, Fun K "empty" "Ranges.empty" s_Ranges_empty (He5.wf K (He.ga K "Ranges") "classmethod" "empty") fd := c.fn 34 (a := atC "empty") (x := "empty") (q := "Ranges.empty") (st := s_Ranges_empty) rfl
  have B_empty := F_empty.binds (ps := ["cls"]) fun _ _ _ _ _ _ us hl => match us, hl with | [_], _ => rfl
  generalize eC : He.ga K "Ranges" = C at *
  have e := hfa.symm.trans g_law
  cases e
  have T : ClsT K mg C (He.ma K C "__init__") (He.ma K C "__eq__") := ⟨cCl, cNo_parts, cMk, g_C, cX.self, ⟨m_eq.1, cX.ne, m_eq.2, ⟨cX.ob, cX.sub _ (by decide), cX.sub _ (by decide), cX.sub _ (by decide), cX.sub _ (by decide), cX.sub _ (by decide), cX.sub _ (by decide)⟩⟩, cX.cls, cX.get, cX.tk, cX.mro, cX.own,
    cX.kit _ (by decide), cX.kit _ (by decide), cX.kit _ (by decide), cX.kit _ (by decide), cX.kit _ (by decide), cX.kit _ (by decide)⟩
  have CM : ClsM K C (.type "type") _ _ _ _ _ _ _ _ (He.ma K C "__or__") := ⟨cX.rd, cX.met "empty" (by decide), cX.met "between" (by decide), cX.met "of" (by decide), cX.met "full" (by decide), cX.self, m_or.1, m_or.2⟩
  have CK : ClsK K C (He.ma K C "__contains__") (He.ma K C "__bool__") := ⟨m_contains.1, m_contains.2, m_bool.1, m_bool.2⟩
  have CN : ClsN K C (He.ma K C "__and__") (He.ma K C "__sub__") (He.ma K C "is_within") (He.ma K C "sample") := ⟨m_and.1, m_and.2, m_sub.1, m_sub.2, m_is_within, m_sample⟩
  refine ⟨fd_law, fun s v => bl s [v] rfl, fun base _ _ => ?_⟩
  have G_joined := ok_joined (P := P) (w := w) (mg := mg) (base := base) F_joined F_start_of B_start_of g_start_of F_touches B_touches g_touches F_later_end B_later_end g_later_end z_max z_sorted z_tuple
  have R : ClsR P w K mg base C _ _ _ _ (He.ma K C "__or__") (He.ma K C "__eq__") := ⟨FnOk.raw (ok_empty F_empty F_init B_init T) B_empty .nil, FnOk.raw (ok_between F_between F_init B_init T) B_between .nil, ok_of F_of F_init B_init T F_joined B_joined g_joined G_joined,
    FnOk.raw (ok_full F_full F_init B_init T) B_full .nil, FnOk.raw (ok_or F_or F_init B_init T F_joined B_joined g_joined G_joined) B_or .nil, FnOk.raw (ok_eq F_eq T z_isinstance) B_eq .nil⟩
  have R_bool : FnR P w K mg base CX0 1 (He.ma K C "__bool__") (fun vs H Q E => sp_bool C (vs ++ []) H Q E) := FnOk.raw (ok_bool F_bool T z_bool) B_bool .nil
  have R_and : FnR P w K mg base CX0 5 (He.ma K C "__and__") (mAnd C) := FnOk.raw (ok_and F_and F_init B_init T F_joined B_joined g_joined G_joined F_gaps B_gaps g_gaps z_tuple) B_and .nil
  have R_sub : FnR P w K mg base CX0 5 (He.ma K C "__sub__") (mSub C) := FnOk.raw (ok_sub F_sub F_init B_init T F_joined B_joined g_joined G_joined F_gaps B_gaps g_gaps z_tuple) B_sub .nil
  have R_is_within : FnR P w K mg base CX0 6 (He.ma K C "is_within") (mWi C) := FnOk.raw (ok_within F_is_within T CM CN CK R_sub R_bool) B_is_within .nil
  have G_first_numbers := ok_first (P := P) (w := w) (mg := mg) (base := base) F_first_numbers z_len z_max z_min z_list z_range
  have G_mirrored := ok_mirrored (P := P) (w := w) (mg := mg) (base := base) F_mirrored F_opposite B_opposite g_opposite z_tuple
  have R_sample : FnR P w K mg base CX0 4 (He.ma K C "sample") (mSam C) := FnOk.raw (ok_sample F_sample T F_first_numbers B_first_numbers g_first_numbers G_first_numbers F_mirrored B_mirrored g_mirrored G_mirrored F_place_of B_place_of g_place_of z_sorted) B_sample .nil
  have G_pen := ok_pen (P := P) (w := w) (mg := mg) (base := base) F_pen z_list
  have G_draw := ok_draw (P := P) (w := w) (mg := mg) (base := base) F_draw z_int z_len z_abs
  have G_end := ok_end (P := P) (w := w) (mg := mg) (base := base) F_end F_draw B_draw g_draw G_draw
  have G_stretches := ok_stretches (P := P) (w := w) (mg := mg) (base := base) F_stretches F_draw B_draw g_draw G_draw F_end B_end g_end G_end z_range z_int z_min
  have G_made := ok_made F_made F_draw B_draw g_draw G_draw CM R g_C z_list z_len
  have G_of_list := ok_of_list F_of_list CM R g_C
  have G_inner := ok_inner (P := P) (w := w) (mg := mg) (base := base) F_inner
  have G_is_like := ok_is_like F_is_like T CN R R_is_within
  have G_Lgaps := ok_Lgaps F_Lgaps CM R g_C z_range z_len
  have G_parts_right := ok_parts_right F_parts_right T CM CN R R_sub R_is_within F_draw B_draw g_draw G_draw F_made B_made g_made G_made F_is_like B_is_like g_is_like G_is_like F_Lgaps B_Lgaps g_Lgaps G_Lgaps F_inner B_inner g_inner G_inner g_C z_list z_len
  have G_samples_right := ok_samples_right F_samples_right T CM CN CK R R_sub R_is_within R_sample R_bool F_draw B_draw g_draw G_draw F_is_like B_is_like g_is_like G_is_like F_of_list B_of_list g_of_list G_of_list z_bool z_len
  exact ok_law F_law T CM CN R R_and R_sub F_pen B_pen g_pen G_pen F_draw B_draw g_draw G_draw F_stretches B_stretches g_stretches G_stretches F_made B_made g_made G_made F_parts_right B_parts_right g_parts_right G_parts_right F_samples_right B_samples_right g_samples_right G_samples_right g_C z_range
end Spk
open PySem PySem.W PySem.Calls PyProof.Rows
theorem PySem.Challenge.cw_speaklast_k08_sets_told_by_their_parts_holds : PySem.Challenge.rw_speaklast_k08_sets_told_by_their_parts.Holds := by
  w_on; o_law
  refine HandSHeadRun.head_any (r := Spk.Rw) (q := view Spk.Rw.prog [24]) (H := Spk.hk) (ob := Spk.obT) (M := 4000) (loose := Spk.loose) (d := HandSHeadRun.topDef Spk.Rw.prog 24) (kwd := []) Spk.obT_eq
    (by kernel_rfl) (fun s => by kernel_rfl) Spk.runs (by kernel_rfl) (by kernel_rfl) (by kernel_rfl) (by rfl) (by first | assumption | decide +kernel) (by decide +kernel) ⟨rfl, rfl, rfl, rfl, rfl, by decide +kernel⟩ ?hw ?hc
  case hw => w_witness2
  case hc =>
    refine L2.walk_ofE (l := PySem.Challenge.rw_speaklast_k08_sets_told_by_their_parts) (n := 63) (k := 9) (x := "_law_script") (CX := L2.CX0) rfl (by decide) (by kernel_rfl) ⟨rfl, by decide, by decide⟩ ?F (fun _ _ _ _ z => z)
    intro w mg fa h Y G hmg0
    obtain ⟨K, KX, c⟩ := Y
    have hmg : mg ("law" : PySem.Str) = some (.ref fa) := by
      have e : (HandSHeadRun.topDef Spk.Rw.prog 24).name = ("law" : PySem.Str) := by kernel_rfl
      rw [← e]
      exact hmg0
    obtain ⟨fd, hb, hF⟩ := Spk.facts (P := (PySem.Challenge.rw_speaklast_k08_sets_told_by_their_parts).prog) (w := w) KX G hmg c
    exact ⟨K, fd, Spk.sp_law K, KX, hb, fun H a ns hl _ hS => ⟨a, ns, rfl, hS, hl, fun _ => rfl⟩, hF⟩

