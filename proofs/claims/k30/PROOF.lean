import PyProof.Rows.All
import Wide.All
import OpenK.AllK
import Wide.FinOn
import Lean
import PyProof.EqAt
import PyProof.EqKinds
import PyProof.TupleCall
import PyProof.ZipIter
import PyProof.Draws
import PyProof.TupleIter
import PySem.Value
import PyProof.NeKinds
import PyProof.ExcClass2
import PyProof.StationsW
import OpenK.KOwn
import KE.KIsAll
import PyProof.RulesAs
import PyProof.NsDelKeeps
import PyProof.PassesOwn
import PyProof.ExcArgsOwn
import PyProof.IsiH_list
import PyProof.EnumMake
import PyProof.EnumFor
import PyProof.WalksEnum
import PyProof.Rows.EnumRows
import PyProof.SumWalk
import PyProof.StrCalls
import PyProof.Rows.StrJoin2
import PyProof.WalkInts
import KE.KDictOf
import KE.KEqDict
import PyProof.EqLayable
import PyProof.P3Eq
import PyProof.MeetsIn
import PyProof.StrCalls6
import PyProof.StrLaws
import PyProof.StrLawsIn
import PyProof.StrLawsChain
import PyProof.MeetsStr2
import PyProof.StrOps2
import PyProof.CallStr
import KE.KIntText
import KE.KRevIter
import PyProof.Rows.StrInSeq3
import PyProof.Rows.SeqMore2
import KE.KNestM
import PySem.Challenge.RW_keeper_k30_parting
set_option Elab.async false
set_option linter.all false
set_option maxRecDepth 100000
noncomputable section
section
namespace L2
open PySem PySem.Spec PyProof.Rows
def HB (base : Heap) (A : Around) : Prop := A.handled = none ∨ ∃ a oe vs, A.handled = some (.ref a) ∧ base.get? a = some oe ∧ oe.data = .fields vs ∧ vs[2]? = some .none
def HBp (base : Heap) (pn : List (Addr × Obj)) (A : Around) : Prop := A.handled = none ∨ ∃ a oe vs, A.handled = some (.ref a) ∧ (base.get? a = some oe ∨ (a, oe) ∈ pn) ∧ oe.data = .fields vs ∧ vs[2]? = some .none
theorem HB.toP {base : Heap} {pn : List (Addr × Obj)} {A : Around} (h : HB base A) : HBp base pn A := by
  rcases h with h | ⟨a, oe, vs, e1, e2, e3⟩
  · exact .inl h
  · exact .inr ⟨a, oe, vs, e1, .inl e2, e3⟩
theorem ent_unchain : entryFor table "proto.unchain" = some Builtin.«proto.unchain» := entryFor_of_tree (by kernel_rfl)
section
variable {prog : Program} {w : World} {A : Around} {E : Value → Shared → Prop} {s : Shared} {base : Heap}
theorem HB.mono {h h' : Heap} (hb : HB h A) (hk : ∀ a o, A.handled = some (.ref a) → h.get? a = some o → h'.get? a = some o) : HB h' A := by
  rcases hb with hb | ⟨a, oe, vs, e1, e2, e3⟩
  · exact .inl hb
  · exact .inr ⟨a, oe, vs, e1, hk a oe e1 e2, e3⟩
theorem un_chain {n a : Addr} {oe : Obj} {vs : Array Value} {Q : Value → Shared → Prop} (he : s.heap.get? a = some oe) (hd : oe.data = .fields vs) (h2 : vs[2]? = some .none) (h : Q .none s) :
    wpAny (model prog w) A (runValue (.builtin "proto.unchain" ⟨[.ref n, .ref a, .ref a, .bool false], []⟩)) Q E s := by
  refine wpAny_runValue (codeAny_builtin ent_unchain ?_)
  show wpAny _ _ (field (.ref a) 2 >>= _) _ _ s
  refine wpAny_bind (wpAny_field he hd h2 ?_)
  rw [if_pos (show (Value.none == Value.none) = true by rfl)]
  exact wpAny_pure h
theorem stop_made {α : Type} {Q : α → Shared → Prop} (hb : HB s.heap A)
    (hE : ∀ h' e, (∀ b o, s.heap.get? b = some o → h'.get? b = some o) → (∃ o, h'.get? e = some o ∧ o.cls = .type "StopIteration") → E (.ref e) { s with heap := h' }) :
    wpAny (model prog w) A (newExc (.type "StopIteration") [] >>= fun e => (raiseNew e : Sem α)) Q E s := by
  refine wpAny_bind ?_
  simp only [newExc, newTuple]
  refine wpAny_bind (wpAny_newObj_type ?_ (by size_fits))
  refine wpAny_bind (m := firstArgMember _ _) (wpAny_of_eq (a := Value.none) (by first | rfl | (simp only [firstArgMember]; rfl)) ?_)
  refine wpAny_newObj_type ?_ (by size_fits)
  simp only [raiseNew]
  refine wpAny_bind (wpAny_handled ?_)
  rcases hb with hb | ⟨a, oe, vs, hb, e1, e2, e3⟩
  · rw [hb]
    refine wpAny_bind (wpAny_pure (wpAny_throw (hE _ _ (fun b o e => Heap.get?_push_of_some _ (Heap.get?_push_of_some _ e)) ⟨_, Heap.get?_push_size _ rfl, rfl⟩)))
  · rw [hb]
    have ea := e1
    have lt := Heap.lt_size ea
    have ne : a ≠ (s.heap.push { cls := .type "tuple", data := .seq #[] }).objs.size := by
      rw [Heap.size_push]
      exact Nat.ne_of_lt (Nat.lt_succ_of_lt lt)
    dsimp only
    rw [if_pos (by simpa using ne)]
    refine wpAny_bind (wpAny_holding (un_chain (Heap.get?_push_of_some _ (Heap.get?_push_of_some _ ea)) e2 e3 ?_))
    refine wpAny_bind ?_
    show wpAny (model prog w) A (setField (.ref _) 2 (.ref a)) _ _ _
    refine wpAny_setField (Heap.get?_push_size _ rfl) rfl (by simp; omega) (wpAny_throw (hE _ _ (fun b o e => ?_) ⟨_, Heap.get?_update_self _ (Heap.get?_push_size _ rfl) (Obj.isFreed_of_fields (Obj.data_mapFields rfl _)), Obj.cls_mapFields _ _⟩))
    rw [Heap.get?_update_other _ _ ?_]
    · exact Heap.get?_push_of_some _ (Heap.get?_push_of_some _ e)
    · have := Heap.lt_size e
      intro z
      rw [← z, Heap.size_push] at this
      exact Nat.not_succ_lt_self this
theorem is_stop {Q : Bool → Shared → Prop} {h' : Heap} {e : Addr} (he : ∃ o, h'.get? e = some o ∧ o.cls = .type "StopIteration") (h : Q true { s with heap := h' }) : wpAny (model prog w) A (isInstance (.ref e) (.type "StopIteration")) Q E { s with heap := h' } := by
  obtain ⟨o, ho, hc⟩ := he
  exact wpAny_isInstance (T := "StopIteration") (b := true) ⟨o, ho, hc⟩ isSubtype_stop h
theorem HB.upd {it : Addr} {f : Obj → Obj} (hb : HB s.heap A) (na : ∀ a, A.handled = some (.ref a) → a ≠ it) : HB (s.heap.update it f) A := hb.mono fun a o e1 e2 => (Heap.get?_update_other _ _ (Ne.symm (na a e1))).trans e2
theorem ext_upd {it : Addr} {f : Obj → Obj} {h' : Heap} (k : ∀ b o, (s.heap.update it f).get? b = some o → h'.get? b = some o) : Heap.ExtBut it s.heap h' := fun b o hb e => k b o ((Heap.get?_update_other _ _ (Ne.symm hb)).trans e)
theorem next_list_end {it l : Addr} {i : Nat} {items : Array Value} {Q : Option Value → Shared → Prop} (hb : HB s.heap A) (na : ∀ a, A.handled = some (.ref a) → a ≠ it) (hit : s.heap.IsListIter it l i) (hl : s.heap.IsList l items) (hx : items[i]? = none)
    (hQ : ∀ h', Heap.ExtBut it s.heap h' → Q none { s with heap := h' }) : wpAny (model prog w) A (pyNext (.ref it)) Q E s := by
  obtain ⟨o, ho, hc, hd⟩ := id hit
  obtain ⟨ol, hol, _, nl, hdl⟩ := hl
  unfold pyNext
  refine wpAny_bind (wpAny_attempt (wpAny_callSpecial?_slot (name := Str.ofString "__next__") hit.typeIs slot_listiter_next (wpAny_call_entry slot_listiter_next hit.typeIs entry_listiter_next ?_ (args_listiter_next _))))
  show wpAny (model prog w) _ (field (.ref it) 0 >>= _) _ _ s
  refine wpAny_bind (wpAny_field ho hd (x := .ref l) rfl ?_)
  show wpAny (model prog w) _ (if (Value.ref l == Value.none) = true then _ else _) _ _ s
  rw [if_neg (show ¬ (Value.ref l == Value.none) = true from Bool.false_ne_true)]
  show wpAny (model prog w) _ (field (.ref it) 1 >>= _) _ _ s
  refine wpAny_bind (wpAny_field ho hd (x := .int i 0) rfl ?_)
  show wpAny (model prog w) _ (seqItems? (.ref l) >>= _) _ _ s
  refine wpAny_bind (wpAny_seqItems hol hdl ?_)
  simp only [Int.toNat_natCast, hx]
  refine wpAny_bind (wpAny_rule (wpAny_bind (wpAny_setField ho hd (by simp) ?_)))
  exact stop_made (A := A.in1) (hb.upd na) fun h' e k he => wpAny_bind (is_stop he (wpAny_pure (hQ h' (ext_upd k))))
theorem next_tuple_end {it l : Addr} {i : Nat} {items : Array Value} {Q : Option Value → Shared → Prop} (hb : HB s.heap A) (na : ∀ a, A.handled = some (.ref a) → a ≠ it) (hit : s.heap.IsTupleIter it l i) (hl : s.heap.IsTuple l items) (hx : items[i]? = none)
    (hQ : ∀ h', Heap.ExtBut it s.heap h' → Q none { s with heap := h' }) : wpAny (model prog w) A (pyNext (.ref it)) Q E s := by
  obtain ⟨o, ho, hc, hd⟩ := id hit
  obtain ⟨ol, hol, _, nl, hdl⟩ := hl
  unfold pyNext
  refine wpAny_bind (wpAny_attempt (wpAny_callSpecial?_slot (name := Str.ofString "__next__") hit.typeIs F.slot_tuple_iterator_next (wpAny_call_entry F.slot_tuple_iterator_next hit.typeIs F.entry_tuple_iterator_next ?_ (F.args_tuple_iterator_next_1 _))))
  show wpAny (model prog w) _ (field (.ref it) 0 >>= _) _ _ s
  refine wpAny_bind (wpAny_field ho hd (x := .ref l) rfl ?_)
  show wpAny (model prog w) _ (if (Value.ref l == Value.none) = true then _ else _) _ _ s
  rw [if_neg (show ¬ (Value.ref l == Value.none) = true from Bool.false_ne_true)]
  show wpAny (model prog w) _ (field (.ref it) 1 >>= _) _ _ s
  refine wpAny_bind (wpAny_field ho hd (x := .int i 0) rfl ?_)
  show wpAny (model prog w) _ (seqItems? (.ref l) >>= _) _ _ s
  refine wpAny_bind (wpAny_seqItems hol hdl ?_)
  simp only [Int.toNat_natCast, hx]
  refine wpAny_bind (wpAny_rule (wpAny_bind (wpAny_setField ho hd (by simp) ?_)))
  exact stop_made (A := A.in1) (hb.upd na) fun h' e k he => wpAny_bind (is_stop he (wpAny_pure (hQ h' (ext_upd k))))
theorem next_range_end {it : Addr} {x left step : Int} {Q : Option Value → Shared → Prop} (hb : HB s.heap A) (hit : IsRangeIter s.heap it x left step) (hleft : left ≤ 0)
    (hQ : ∀ h', Heap.ExtBut it s.heap h' → Q none { s with heap := h' }) : wpAny (model prog w) A (pyNext (.ref it)) Q E s := by
  have hT : s.TypeIs (.ref it) "range_iterator" := ⟨_, hit, rfl⟩
  unfold pyNext
  refine wpAny_bind (wpAny_attempt (wpAny_callSpecial?_slot (name := Str.ofString "__next__") hT F.slot_range_iterator_next (wpAny_call_entry F.slot_range_iterator_next hT F.entry_range_iterator_next ?_ (F.args_range_iterator_next_1 _))))
  show wpAny (model prog w) _ (field (.ref it) 0 >>= _) _ _ s
  refine wpAny_bind (wpAny_field hit rfl (x := rawInt x) rfl ?_)
  show wpAny (model prog w) _ (field (.ref it) 1 >>= _) _ _ s
  refine wpAny_bind (wpAny_field hit rfl (x := rawInt left) rfl ?_)
  show wpAny (model prog w) _ (field (.ref it) 2 >>= _) _ _ s
  refine wpAny_bind (wpAny_field hit rfl (x := rawInt step) rfl ?_)
  show wpAny (model prog w) _ (if left ≤ 0 then _ else _) _ _ s
  rw [if_pos hleft]
  refine wpAny_bind (wpAny_rule ?_)
  refine wpAny_bind ?_
  exact stop_made (A := A.in1) hb fun h' e k he => wpAny_bind (is_stop he (wpAny_pure (hQ h' fun b o _ eb => k b o eb)))
theorem unpackH {t : Addr} {items : Array Value} {Q : List Value → Shared → Prop} (hb : HB s.heap A) (ht : s.heap.IsTuple t items)
    (hQ : ∀ h', Heap.ExtBut s.heap.objs.size s.heap h' → Q items.toList { s with heap := h' }) : wpAny (model prog w) A (unpackItems (.ref t) items.size none) Q E s := by
  have hlt : t ≠ s.heap.objs.size := by obtain ⟨o, ho, _⟩ := ht; exact Nat.ne_of_lt (Heap.lt_size ho)
  have lta : ∀ a, A.handled = some (.ref a) → a ≠ s.heap.objs.size := fun a ea => by
    rcases hb with hb | ⟨a', oe, vs, e1, e2, _⟩
    · rw [hb] at ea; cases ea
    · rw [e1] at ea; cases ea; exact Nat.ne_of_lt (Heap.lt_size e2)
  unfold unpackItems
  refine wpAny_bind ?_
  unfold notIterableAtAll
  refine wpAny_bind (wpAny_specialOf ht.typeIs F.slot_tuple_iter.lookup (wpAny_pure ?_))
  simp only [Bool.false_eq_true, if_false]
  refine wpAny_bind (wpAny_holding (wpAny_pyIter_tuple ht ?_))
  refine wpAny_bind (wpAny_holding (wpAny_draw_tuple hlt items.size 0 _ _ ⟨_, Heap.get?_push_size _ rfl, rfl, rfl⟩ (ht.push _) (by omega) fun h₁ hit₁ hs₁ => ?_))
  rw [show List.take items.size (List.drop 0 items.toList) = items.toList by rw [List.drop_zero]; exact List.take_of_length_le (by simp), if_neg (by simp)]
  have ht₁ : h₁.IsTuple t items := (ht.push _).extBut hs₁.extBut hlt
  have hb₁ : HB h₁ A := hb.mono fun a o ea eo => hs₁.extBut a o (lta a ea) (Heap.get?_push_of_some _ eo)
  refine wpAny_bind (wpAny_holding (next_tuple_end (s := { s with heap := h₁ }) hb₁ lta hit₁ ht₁ (by simp) fun h₂ he₂ => ?_))
  simp only [Option.isSome_none, Bool.false_eq_true, if_false]
  exact wpAny_pure (hQ h₂ fun b o hb e => he₂ b o hb (hs₁.extBut b o hb (Heap.get?_push_of_some _ e)))
theorem assignH {env : Env} {elts : List Expr} {x1} {pos : Pos} {t : Addr} {items : Array Value} {Q : Unit → Shared → Prop} (hb : HB s.heap A) (ht : s.heap.IsTuple t items)
    (hn : (assignEach elts env).length = items.size) (hstar : (assignEach elts env).findIdx? (·.1) = none)
    (h : ∀ h', Heap.ExtBut s.heap.objs.size s.heap h' → wpAny (model prog w) A (assignInOrder ((assignEach elts env).map (·.2)) items.toList) Q E { s with heap := h' }) : wpAny (model prog w) A (assign (.Tuple elts x1 pos) env (.ref t)) Q E s := by
  rw [arm_assign_Tuple]
  refine wpAny_bind (wpAny_standAt ?_)
  unfold unpack
  rw [hn, hstar]
  exact wpAny_bind (wpAny_holding (unpackH hb ht h))
end
theorem range_item {prog : Program} {w : World} {A : Around} {s : Shared} {Q : Option Value → Shared → Prop} {E : Value → Shared → Prop} {I : Addr} {a c : Int} {n i : Nat} (hi : i < n) (st : IsRangeIter s.heap I (a + (i : Nat) * c) ((n : Int) - (i : Nat)) c)
    (hQ : ∀ v h' tk, (∃ t, v = .int (a + i * c) t) → IsRangeIter h' I (a + ((i + 1 : Nat) : Int) * c) ((n : Int) - ((i + 1 : Nat) : Int)) c → (∀ b o, b ∉ [I] → s.heap.get? b = some o → h'.get? b = some o) → Q (some v) { s with heap := h', toks := tk }) :
    wpAny (model prog w) A (pyNext (.ref I)) Q E s := by
  refine wpAny_pyNext_range_item st (by omega) fun h' hit' hs' => hQ _ h' _ ⟨_, rfl⟩ ?_ fun b o hb e => hs'.extBut b o (fun h => hb (by simp [h])) e
  rw [show a + ((i + 1 : Nat) : Int) * c = a + (i : Int) * c + c by push_cast; rw [Int.add_mul, Int.one_mul, Int.add_assoc], show (n : Int) - ((i + 1 : Nat) : Int) = (n : Int) - (i : Int) - 1 by push_cast; omega]
  exact hit'
def hAdr (A : Around) : List Addr := match A.handled with
  | some (.ref a) => [a]
  | _ => []
theorem mem_hAdr {A : Around} {d : Addr} (h : d ∈ hAdr A) : A.handled = some (.ref d) := by
  unfold hAdr at h
  split at h
  · rename_i a e
    rw [List.mem_singleton.mp h]
    exact e
  · cases h
theorem HB.frame {A : Around} {h h' : Heap} (hb : HB h A) (k : ∀ b ∈ hAdr A, ∀ o, h.get? b = some o → h'.get? b = some o) : HB h' A := hb.mono fun a o ea eo => k a (by unfold hAdr; rw [ea]; simp) o eo
end L2
end
section
namespace L2
open PySem PySem.Spec PyProof.Rows
abbrev Key := Sum Int Str
def keyIs : Key → Value → Bool
  | .inl k, v => Value.isInt k v
  | .inr x, v => Value.isStrOf x v
def keyH (w : World) : Key → Int
  | .inl k => hashInt k
  | .inr x => hashStr w x
theorem keyIs_shape : ∀ {k : Key} {v : Value}, keyIs k v = true → (∃ i t, k = Sum.inl i ∧ v = Value.int i t) ∨ (∃ x t, k = Sum.inr x ∧ v = Value.str x t)
  | .inl i, v, h => by
    obtain ⟨t, e⟩ := Value.isInt_shape (k := i) (v := v) h
    exact .inl ⟨i, t, rfl, e⟩
  | .inr x, v, h => by
    obtain ⟨t, e⟩ := Value.isStrOf_shape (x := x) (v := v) h
    exact .inr ⟨x, t, rfl, e⟩
theorem keyIs_int (i : Int) (t : Tok) : keyIs (.inl i) (.int i t) = true := by simp [keyIs, Value.isInt]
theorem keyIs_str (x : Str) (t : Tok) : keyIs (.inr x) (.str x t) = true := by simp [keyIs, Value.isStrOf]
theorem key_ll (a b : Int) : decide ((Sum.inl a : Key) = Sum.inl b) = (a == b) := by
  by_cases e : a = b
  · subst e; simp
  · have h : ¬ (Sum.inl a : Key) = Sum.inl b := fun q => e (Sum.inl.inj q)
    rw [decide_eq_false h]
    exact (beq_eq_false_iff_ne.mpr e).symm
theorem key_rr (a b : Str) : decide ((Sum.inr a : Key) = Sum.inr b) = decide (a = b) := by
  by_cases e : a = b
  · subst e; simp
  · have h : ¬ (Sum.inr a : Key) = Sum.inr b := fun q => e (Sum.inr.inj q)
    rw [decide_eq_false h, decide_eq_false e]
theorem key_lr (a : Int) (b : Str) : decide ((Sum.inl a : Key) = Sum.inr b) = false := decide_eq_false (fun q => nomatch q)
theorem key_rl (a : Str) (b : Int) : decide ((Sum.inr a : Key) = Sum.inl b) = false := decide_eq_false (fun q => nomatch q)
def mixKind (prog : Program) (w : World) : PySem.KeyKind prog w Key where
  is := keyIs
  hash := keyH w
  inj := fun v a b ha hb => by
    rcases keyIs_shape ha with ⟨i, t, rfl, rfl⟩ | ⟨x, t, rfl, rfl⟩
    · rcases keyIs_shape hb with ⟨j, u, rfl, e⟩ | ⟨y, u, rfl, e⟩
      · injection e with e1 _; rw [e1]
      · exact nomatch e
    · rcases keyIs_shape hb with ⟨j, u, rfl, e⟩ | ⟨y, u, rfl, e⟩
      · exact nomatch e
      · injection e with e1 _; rw [e1]
  byValue := fun k v h => by
    rcases keyIs_shape h with ⟨i, t, rfl, rfl⟩ | ⟨x, t, rfl, rfl⟩ <;> rfl
  pyHash := fun hv h => by
    rcases keyIs_shape hv with ⟨i, t, rfl, rfl⟩ | ⟨x, t, rfl, rfl⟩
    · exact wpAny_pyHash_int h
    · exact wpAny_pyHash_str h
  eqBool := fun hu hv h => by
    rcases keyIs_shape hu with ⟨i, t, rfl, rfl⟩ | ⟨x, t, rfl, rfl⟩
    · rcases keyIs_shape hv with ⟨j, u, rfl, rfl⟩ | ⟨y, u, rfl, rfl⟩
      · rw [key_ll] at h; exact wpAny_eqBool_int h
      · rw [key_lr] at h; exact SeqAt.EqAt.int_str i t y u _ _ _ _ h
    · rcases keyIs_shape hv with ⟨j, u, rfl, rfl⟩ | ⟨y, u, rfl, rfl⟩
      · rw [key_rl] at h; exact SeqAt.EqAt.str_int x t j u _ _ _ _ h
      · rw [key_rr] at h; exact wpAny_eqBool_str h
  «strs» := fun k x t v h => by
    rcases keyIs_shape h with ⟨i, u, rfl, e⟩ | ⟨y, u, rfl, e⟩
    · exact nomatch e
    · injection e with e1 _
      subst e1
      cases v <;> rfl
theorem mixKind_int (prog : Program) (w : World) (i : Int) (t : Tok) : (mixKind prog w).is (.inl i) (.int i t) = true := keyIs_int i t
theorem mixKind_str (prog : Program) (w : World) (x : Str) (t : Tok) : (mixKind prog w).is (.inr x) (.str x t) = true := keyIs_str x t
end L2
namespace L2
open PySem PySem.Spec PyProof.Rows
inductive V where
  | non | bl (b : Bool) | int (i : Int) | str (x : Str) | byt (b : Array UInt8) | flt (b : UInt64) | ref (a : Addr) | ty (n : String)
  deriving DecidableEq
def RelV : V → Value → Prop
  | .non, u => u = Value.none
  | .bl b, u => u = Value.bool b
  | .int i, u => ∃ t, u = Value.int i t
  | .str x, u => ∃ t, u = Value.str x t
  | .byt b, u => ∃ t, u = Value.bytes b t
  | .flt b, u => ∃ t, u = Value.float b t
  | .ref a, u => u = Value.ref a
  | .ty n, u => u = Value.type n
abbrev Vals : List V → List Value → Prop := Paired RelV
theorem Vals.length {xs : List V} {us : List Value} (r : Vals xs us) : xs.length = us.length := Paired.length r
theorem Vals.get : ∀ {xs : List V} {us : List Value} {i : Nat} {x : V}, Vals xs us → xs[i]? = some x → ∃ u, us[i]? = some u ∧ RelV x u
  | _, _, _, _, .nil, e => by simp at e
  | _, _, 0, _, .cons r _, e => by simp at e; subst e; exact ⟨_, rfl, r⟩
  | _, _, i + 1, x, .cons _ t, e => by
    obtain ⟨u, h1, h2⟩ := Vals.get (i := i) (x := x) t (by simpa using e)
    exact ⟨u, by simpa using h1, h2⟩
theorem Vals.set {x : V} {u : Value} (r : RelV x u) : ∀ {xs : List V} {us : List Value} (i : Nat), Vals xs us → Vals (xs.set i x) (us.set i u)
  | _, _, _, .nil => .nil
  | _, _, 0, .cons _ t => .cons r t
  | _, _, i + 1, .cons q t => .cons q (Vals.set r i t)
theorem Vals.append : ∀ {xs ys : List V} {us ws : List Value}, Vals xs us → Vals ys ws → Vals (xs ++ ys) (us ++ ws)
  | _, _, _, _, .nil, s => s
  | _, _, _, _, .cons r t, s => .cons r (Vals.append t s)
theorem Vals.take : ∀ {xs : List V} {us : List Value} (n : Nat), Vals xs us → Vals (xs.take n) (us.take n)
  | _, _, 0, _ => .nil
  | _, _, _ + 1, .nil => .nil
  | _, _, n + 1, .cons r t => .cons r (Vals.take n t)
theorem Vals.drop : ∀ {xs : List V} {us : List Value} (n : Nat), Vals xs us → Vals (xs.drop n) (us.drop n)
  | _, _, 0, r => r
  | _, _, _ + 1, .nil => .nil
  | _, _, n + 1, .cons _ t => Vals.drop n t
def RelO : Option V → Option Value → Prop
  | some v, some u => RelV v u
  | none, none => True
  | _, _ => False
def KV {κ : Type} : List (κ × V) → List (κ × Value) → Prop := Paired fun (p : κ × V) (q : κ × Value) => p.1 = q.1 ∧ RelV p.2 q.2
def kV : Key → V
  | .inl i => .int i
  | .inr x => .str x
inductive TabS where
  | tab (q : Str) (ln cl : Value)
  | code (q : Str)
inductive HO where
  /-- a list -/
  | lst (xs : List V)
  /-- a tuple (never changes) -/
  | tup (xs : List V)
  /-- a dict whose keys are ints and texts; one whose keys are tuples of ints and texts (the empty one is both) -/
  | dK (kvs : List (Key × V)) | dT (kvs : List (List Key × V))
  /-- a set of ints: its members, its size -/
  | set (S : Int → Bool) (n : Nat)
  /-- an instance of the class at C, its dict at dx, its attributes -/
  | ins (C dx : Addr) (fs : List (Str × V))
  /-- the dict of the instance at x -/
  | own (x : Addr)
  /-- the dict of an exception -/
  | xd (fs : List (Str × V))
  /-- a bound method, f of x -/
  | met (f x : Addr)
  /-- a range object lo, lo + 1, .. below hi -/
  | rng (lo hi : Int)
  /-- a thing that is known to the object (the script; a dict while a loop walks it): read, never written while it is so -/
  | frz (o : Obj) (u : HO)
  /-- a code object's table -/
  | tbl (ps : TabS)
  /-- any other thing, by what is true of its one object (a def of one's own: SetO a S n := HO.ext fun h => ..) -/
  | ext (φ : Heap → Prop)
abbrev Hp := Addr → Option HO
def upd (H : Hp) (a : Addr) (o : HO) : Hp := fun b => if b = a then some o else H b
theorem upd_same {H : Hp} {a : Addr} {o : HO} : upd H a o a = some o := by unfold upd; rw [if_pos rfl]
theorem upd_ne {H : Hp} {a b : Addr} {o : HO} (h : b ≠ a) : upd H a o b = H b := by unfold upd; rw [if_neg h]
theorem upd_upd {H : Hp} {a : Addr} {o u : HO} : upd (upd H a o) a u = upd H a u := by
  funext b; unfold upd; split <;> rfl
theorem ne_of {H : Hp} {a b : Addr} {o u : HO} (h : H a = some o) (h' : H b = some u) (d : o ≠ u) : a ≠ b := by
  intro e; subst e; rw [h] at h'; exact d (Option.some.inj h')
theorem ne_of_none {H : Hp} {a b : Addr} {o : HO} (h : H a = some o) (h' : H b = none) : a ≠ b := by
  intro e; subst e; rw [h] at h'; cases h'
section
variable (P : Program) (w : World)
def ObjOk (H : Hp) (h : Heap) (a : Addr) : HO → Prop
  | .lst xs => xs.length ≤ sizeLine ∧ ∃ (its : List Value) (n : Nat), Vals xs its ∧ h.get? a = some { cls := .type "list", data := .seq its.toArray n }
  | .tup xs => xs.length ≤ sizeLine ∧ ∃ its : List Value, Vals xs its ∧ IsTup h a its.toArray
  | .dK kvs => kvs.length ≤ sizeLine ∧ (a == sysModules) = false ∧ ∃ vs, KV kvs vs ∧ h.DictOf (mixKind P w) a vs
  | .dT kvs => kvs.length ≤ sizeLine ∧ (a == sysModules) = false ∧ ∃ xs : List (List Key × Addr × Value),
      Paired (fun (p : List Key × V) (q : List Key × Addr × Value) => p.1 = q.1 ∧ H q.2.1 = some (.tup (p.1.map kV)) ∧ RelV p.2 q.2.2) kvs xs ∧
      ∃ o es ep, h.get? a = some o ∧ o.ExactDict ∧ o.data = .dict es ep ∧ es.toList = xs.map (entryOfKey (tupleKind (mixKind P w))) ∧ (xs.map (·.1)).Nodup
  | .set S n => h.SetOf (intKind P w) a S n
  | .ins C dx fs => H dx = some (.own a) ∧ fs.length ≤ 1000 ∧ dx ≠ a ∧ h.get? a = some (PySem.W.instObj C dx) ∧
      ∃ mA, h.Ns1 dx mA ∧ (∀ f, RelO (fs.lookup f) (mA f)) ∧ PySem.Within mA (fs.map (·.1))
  | .own _ => ∃ o, h.get? a = some o
  | .xd fs => ∃ mA, h.Ns1 a mA ∧ ∀ f, RelO (fs.lookup f) (mA f)
  | .rng lo hi => ∃ t u v, h.get? a = some { cls := .type "range", data := .fields #[.int lo t, .int hi u, .int 1 v] }
  | .frz o u => h.get? a = some o ∧ ObjOk H h a u
  | .tbl (.tab q ln cl) => h.get? a = some { cls := .none, data := .fields #[] } ∨ ∃ c, h.get? a = some { cls := .none, data := .fields #[ln, cl, .ref c] } ∧ H c = some (.tbl (.code q))
  | .tbl (.code q) => h.CodeRec (.ref a) q
  | .met f x => h.get? a = some (PySem.W.methodObj (.ref f) (.ref x))
  | .ext φ => φ h ∧ (∃ o, h.get? a = some o) ∧ ∀ h1 h2 : Heap, φ h1 → (∀ o, h1.get? a = some o → h2.get? a = some o) → φ h2
def HOk (H : Hp) (h : Heap) : Prop := ∀ a o, H a = some o → ObjOk P w H h a o
end
section
variable {P : Program} {w : World} {H H' : Hp} {h h' : Heap} {a : Addr} {o : HO}
theorem ObjOk.lt (x : ObjOk P w H h a o) : a < h.objs.size := by
  cases o with
  | lst xs => obtain ⟨_, _, _, _, e⟩ := x; exact Heap.lt_size e
  | tup xs => obtain ⟨_, _, _, p⟩ := x; exact p.lt
  | dK kvs => obtain ⟨_, _, _, _, o, _, _, e, _⟩ := x; exact Heap.lt_size e
  | dT kvs => obtain ⟨_, _, _, _, o, _, _, e, _⟩ := x; exact Heap.lt_size e
  | set S n => obtain ⟨o, _, _, _, e, _⟩ := x; exact Heap.lt_size e
  | ins C dx fs => obtain ⟨_, _, _, e, _⟩ := x; exact Heap.lt_size e
  | own y => obtain ⟨_, e⟩ := x; exact Heap.lt_size e
  | xd fs => obtain ⟨_, ⟨_, _, _, e, _⟩, _⟩ := x; exact Heap.lt_size e
  | rng lo hi => obtain ⟨_, _, _, e⟩ := x; exact Heap.lt_size e
  | frz ob u => obtain ⟨e, _⟩ := x; exact Heap.lt_size e
  | tbl ps => cases ps with
    | tab q ln cl => rcases x with e | ⟨c, e, _⟩ <;> exact Heap.lt_size e
    | code q => obtain ⟨c, o, vs, t, e1, e2, _⟩ := x; cases e1; exact Heap.lt_size e2
  | met f y => exact Heap.lt_size (show h.get? a = some _ from x)
  | ext φ => obtain ⟨_, ⟨_, e⟩, _⟩ := x; exact Heap.lt_size e
theorem Paired.mapP {α β : Type} {F G : α → β → Prop} : ∀ {l₁ : List α} {l₂ : List β}, Paired F l₁ l₂ → (∀ a b, F a b → G a b) → Paired G l₁ l₂
  | _, _, .nil, _ => .nil
  | _, _, .cons r t, f => .cons (f _ _ r) (Paired.mapP t f)
def Fix : HO → Prop
  | .tup _ => True
  | .tbl _ => True
  | _ => False
abbrev FixO := { u : HO // Fix u }
theorem ObjOk.stay (x : ObjOk P w H h a o) (k : ∀ b u, (b = a ∨ H b = some (.own a)) → h.get? b = some u → h'.get? b = some u)
    (ho : ∀ b, H b = some (.own a) → H' b = some (.own a)) (ht : ∀ (b : Addr) (u : FixO), H b = some u.1 → H' b = some u.1) : ObjOk P w H' h' a o := by
  induction o with
  | lst xs => obtain ⟨z, its, n, r, e⟩ := x; exact ⟨z, its, n, r, k _ _ (.inl rfl) e⟩
  | tup xs => obtain ⟨z, its, r, ob, e, c⟩ := x; exact ⟨z, its, r, ob, k _ _ (.inl rfl) e, c⟩
  | dK kvs => obtain ⟨z, y, vs, r, ob, es, ep, e, c⟩ := x; exact ⟨z, y, vs, r, ob, es, ep, k _ _ (.inl rfl) e, c⟩
  | dT kvs =>
    obtain ⟨z, y, xs, r, ob, es, ep, e, c⟩ := x
    exact ⟨z, y, xs, Paired.mapP r fun p q z => ⟨z.1, ht _ ⟨.tup _, trivial⟩ z.2.1, z.2.2⟩, ob, es, ep, k _ _ (.inl rfl) e, c⟩
  | set S n => obtain ⟨ob, es, ep, t, e, c⟩ := x; exact ⟨ob, es, ep, t, k _ _ (.inl rfl) e, c⟩
  | ins C dx fs =>
    obtain ⟨d, z, ne, e, mA, ⟨od, es, ep, e2, c⟩, r⟩ := x
    exact ⟨ho _ d, z, ne, k _ _ (.inl rfl) e, mA, ⟨od, es, ep, k _ _ (.inr d) e2, c⟩, r⟩
  | own y => obtain ⟨ob, e⟩ := x; exact ⟨ob, k _ _ (.inl rfl) e⟩
  | xd fs => obtain ⟨mA, ⟨od, es, ep, e, c⟩, r⟩ := x; exact ⟨mA, ⟨od, es, ep, k _ _ (.inl rfl) e, c⟩, r⟩
  | rng lo hi => obtain ⟨t, u, v, e⟩ := x; exact ⟨t, u, v, k _ _ (.inl rfl) e⟩
  | frz ob u ih => obtain ⟨e, q⟩ := x; exact ⟨k _ _ (.inl rfl) e, ih q⟩
  | tbl ps => cases ps with
    | tab q ln cl =>
      rcases x with e | ⟨c, e, r⟩
      · exact .inl (k a _ (.inl rfl) e)
      · exact .inr ⟨c, k a _ (.inl rfl) e, ht c ⟨.tbl (.code q), trivial⟩ r⟩
    | code q =>
      obtain ⟨c, o, vs, t, e1, e2, e3⟩ := x
      cases e1
      exact ⟨_, o, vs, t, rfl, k a _ (.inl rfl) e2, e3⟩
  | met f y =>
    have e : h.get? a = some (PySem.W.methodObj (.ref f) (.ref y)) := x
    show h'.get? a = some (PySem.W.methodObj (.ref f) (.ref y))
    exact k a _ (.inl rfl) e
  | ext φ => obtain ⟨p, ⟨o, e⟩, st⟩ := x; exact ⟨st _ _ p fun o q => k _ _ (.inl rfl) q, ⟨o, k _ _ (.inl rfl) e⟩, st⟩
theorem HOk.lt (x : HOk P w H h) (e : H a = some o) : a < h.objs.size := (x a o e).lt
theorem HOk.fresh (x : HOk P w H h) (e : h.objs.size ≤ a) : H a = none := by
  cases q : H a with
  | none => rfl
  | some u => exact absurd (Nat.lt_of_lt_of_le (x.lt q) e) (Nat.lt_irrefl _)
theorem HOk.kept (x : HOk P w H h) (k : ∀ b u, h.get? b = some u → h'.get? b = some u) : HOk P w H h' := fun a o e =>
  (x a o e).stay (fun b u _ q => k b u q) (fun _ q => q) fun _ _ q => q
theorem HOk.laid (x : HOk P w H h) (k : ∀ b u, h.get? b = some u → h'.get? b = some u) (hp : h.objs.size ≤ a) (new : ObjOk P w (upd H a o) h' a o) : HOk P w (upd H a o) h' := fun b u e => by
  have hn := x.fresh hp
  by_cases hb : b = a
  · subst hb; rw [upd_same] at e; cases e; exact new
  · rw [upd_ne hb] at e
    exact (x b u e).stay (fun c v _ q => k c v q) (fun c q => by rw [upd_ne (ne_of_none q hn)]; exact q) fun c xs q => by rw [upd_ne (ne_of_none q hn)]; exact q
end
def Rd (H : Hp) (a : Addr) (u : HO) : Prop := H a = some u ∨ ∃ o, H a = some (.frz o u)
theorem Rd.ok {P : Program} {w : World} {H : Hp} {h : Heap} {a : Addr} {u : HO} (r : Rd H a u) (x : HOk P w H h) : ObjOk P w H h a u := by
  rcases r with r | ⟨o, r⟩
  · exact x a u r
  · obtain ⟨_, q⟩ := x a _ r
    exact q
def Mut : Option HO → Prop
  | some (.lst _) => True
  | some (.dK _) => True
  | some (.dT _) => True
  | some (.set _ _) => True
  | some (.ins _ _ _) => True
  | some (.ext _) => True
  | _ => False
section
variable {P : Program} {w : World} {H : Hp} {h h' : Heap} {x e : Addr} {o' : HO}
theorem HOk.write (ok : HOk P w H h) (mu : Mut (H x)) (he : e = x ∨ H e = some (.own x)) (k : ∀ b u, b ≠ e → h.get? b = some u → h'.get? b = some u) (heo : ∃ u, h'.get? e = some u)
    (new : ObjOk P w (upd H x o') h' x o') : HOk P w (upd H x o') h' := fun b u q => by
  have nown : ∀ c y, H c = some (.own y) → c ≠ x := fun c y r z => by subst z; rw [r] at mu; exact mu
  have ntup : ∀ (c : Addr) (u : FixO), H c = some u.1 → c ≠ x := fun c ⟨u, f⟩ r z => by subst z; rw [show H c = some u from r] at mu; cases u <;> first | exact mu | exact f
  by_cases hb : b = x
  · subst hb; rw [upd_same] at q; cases q; exact new
  · rw [upd_ne hb] at q
    by_cases hbe : b = e
    · have q' : H b = some (.own x) := by
        rcases he with z | z
        · exact absurd (hbe.trans z) hb
        · rw [hbe]; exact z
      rw [q] at q'; cases q'
      obtain ⟨v, hv⟩ := heo
      exact ⟨v, by rw [hbe]; exact hv⟩
    · refine (ok b u q).stay (fun c v hc r => k c v ?_ r) (fun c r => by rw [upd_ne (nown c b r)]; exact r) fun c xs r => by rw [upd_ne (ntup c xs r)]; exact r
      rcases hc with rfl | hc
      · exact hbe
      · rintro rfl
        rcases he with z | z
        · exact nown c b hc z
        · rw [hc] at z; cases z; exact hb rfl
end
structure Un (fs ex : List Addr) (H H' : Hp) (h h' : Heap) : Prop where
  keep : ∀ b o, h.get? b = some o → H b = none → b ∉ fs → b ∉ ex → h'.get? b = some o
  slot : ∀ b o, h.get? b = some o → H b = none → b ∈ fs → b ∉ ex → ∃ sl, h'.get? b = some { o with slots := sl }
  free : ∀ b o, h.get? b = some o → H b = none → b ∉ ex → H' b = none
  there : ∀ b o, h.get? b = some o → b ∉ ex → ∃ o', h'.get? b = some o'
  tups : ∀ b xs, H b = some (.tup xs) → H' b = some (.tup xs)
  frzs : ∀ b o u, H b = some (.frz o u) → H' b = some (.frz o u)
  tbls : ∀ b ps, H b = some (.tbl ps) → H' b = some (.tbl ps)
section
variable {fs fs' ex ex' : List Addr} {H H1 H2 : Hp} {h h1 h2 h' : Heap} {a x e : Addr} {o : HO}
theorem Un.any (u : Un fs ex H H1 h h1) {b : Addr} {ob : Obj} (q : h.get? b = some ob) (n : H b = none) (hx : b ∉ ex) : ∃ sl, h1.get? b = some { ob with slots := sl } := by
  by_cases hb : b ∈ fs
  · exact u.slot b ob q n hb hx
  · exact ⟨ob.slots, u.keep b ob q n hb hx⟩
theorem Un.kept (k : ∀ b u, h.get? b = some u → h'.get? b = some u) : Un fs ex H H h h' :=
  ⟨fun b ob q _ _ _ => k b ob q, fun b ob q _ _ _ => ⟨ob.slots, k b ob q⟩, fun _ _ _ n _ => n, fun b ob q _ => ⟨ob, k b ob q⟩, fun _ _ q => q, fun _ _ _ q => q, fun _ ps q => (by rw [q])⟩
theorem Un.refl : Un fs ex H H h h := Un.kept fun _ _ q => q
theorem Un.laid (k : ∀ b u, h.get? b = some u → h'.get? b = some u) (hp : h.objs.size ≤ a) (hn : H a = none) : Un fs ex H (upd H a o) h h' where
  keep := fun b u q _ _ _ => k b u q
  slot := fun b u q _ _ _ => ⟨u.slots, k b u q⟩
  free := fun b u q n _ => by rw [upd_ne (Nat.ne_of_lt (Nat.lt_of_lt_of_le (Heap.lt_size q) hp))]; exact n
  there := fun b u q _ => ⟨u, k b u q⟩
  tups := fun b xs q => by rw [upd_ne (ne_of_none q hn)]; exact q
  frzs := fun b u xs q => by rw [upd_ne (ne_of_none q hn)]; exact q
  tbls := fun b ps q => (by rw [upd_ne (ne_of_none q hn), q])
theorem Un.write (mu : Mut (H x)) (he : e = x ∨ H e = some (.own x)) (k : ∀ b u, b ≠ e → h.get? b = some u → h'.get? b = some u) (heo : ∃ u, h'.get? e = some u) : Un fs ex H (upd H x o) h h' := by
  have hx : ∀ b, H b = none → b ≠ x := fun b n z => by subst z; rw [n] at mu; exact mu
  have hb : ∀ b, H b = none → b ≠ e := fun b n z => by
    subst z
    rcases he with r | r
    · exact hx b n r
    · rw [n] at r; cases r
  have hm : ∀ b u, H b = some u → ¬ Mut (some u) → b ≠ x := fun b u q nm z => by subst z; rw [q] at mu; exact nm mu
  refine ⟨fun b u q n _ _ => k b u (hb b n) q, fun b u q n _ _ => ⟨u.slots, k b u (hb b n) q⟩, fun b u q n _ => by rw [upd_ne (hx b n)]; exact n, fun b u q _ => ?_,
    fun b xs q => by rw [upd_ne (hm b _ q fun z => z)]; exact q, fun b u xs q => by rw [upd_ne (hm b _ q fun z => z)]; exact q, fun b ps q => (by rw [upd_ne (hm b _ q fun z => z), q])⟩
  by_cases hbe : b = e
  · subst hbe; exact heo
  · exact ⟨u, k b u hbe q⟩
end
def trk (h : Heap) (H : Hp) : List Addr := (List.range h.objs.size).filter fun a => (H a).isSome
def hidT (h : Heap) (H : Hp) : Heap := PySem.W.hideAll h (trk h H)
theorem hidT_size (h : Heap) (H : Hp) : (hidT h H).objs.size = h.objs.size := PySem.W.hideAll_size _ _
theorem hidT_get {h : Heap} {H : Hp} {b : Addr} {o : Obj} (e : h.get? b = some o) (n : H b = none) : (hidT h H).get? b = some o :=
  PySem.W.hideAll_get _ e fun hm => by
    have q : (H b).isSome = true := (List.mem_filter.mp hm).2
    rw [n] at q; simp at q
theorem of_hidT {h : Heap} {H : Hp} {b : Addr} {o : Obj} (e : (hidT h H).get? b = some o) : h.get? b = some o ∧ H b = none := by
  have e' : h.get? b = some o := PySem.W.of_hideAll (trk h H) e
  refine ⟨e', ?_⟩
  cases q : H b with
  | none => rfl
  | some x =>
    have hm : b ∈ trk h H := List.mem_filter.mpr ⟨List.mem_range.mpr (Heap.lt_size e'), by simp [q]⟩
    have z : (hidT h H).get? b = none := PySem.W.hideAll_none (trk h H) hm
    rw [z] at e; cases e
def allNews (g h : Heap) (L : Addr) : List (Addr × Obj) := (List.range h.objs.size).filterMap fun a => if a = L ∨ (g.get? a).isSome = true then none else (h.get? a).map fun o => (a, o)
def rest (g h : Heap) (L d : Addr) : List (Addr × Obj) := (allNews g h L).filter fun p => decide (p.1 ≠ d)
end L2
namespace L2
open PySem PySem.Spec PyProof.Rows
def BmK (mg : Str → Option Value) (h : Heap) : Prop := ∃ bm ob, mg "__builtins__" = some (.ref bm) ∧ bm ≠ builtinsNs ∧ h.get? bm = some ob ∧ ob.cls = .type "module" ∧ ob.dict = some builtinsNs ∧ ob.data = .plain
theorem BmK.keeps {mg : Str → Option Value} {h h' : Heap} (x : BmK mg h) (k : ∀ b o, h.get? b = some o → h'.get? b = some o) : BmK mg h' := let ⟨bm, ob, a, b, c, d⟩ := x; ⟨bm, ob, a, b, k _ _ c, d⟩
structure Mod (K : PySem.W.Frag) (mg : Str → Option Value) (base : Heap) : Prop where
  kin : K.In base
  glob : base.Ns mainGlobals mg
  blt : ∃ mb, base.Ns builtinsNs mb ∧ ∀ x : Str, x ≠ "__name__" → mb x = bootBuiltins x
  nolimit : base.NoLimit
  bm : BmK mg base
structure Cx where
  prog : Program
  w : World
  K : PySem.W.Frag
  mg : Str → Option Value
  base : Heap
  A : Around
  N : List Str
  s₀ : Shared
  H₀ : Hp
  env : Env
  outer : List Env
  stack : List Env
  ex : List Addr
  fn : Str → Bool
  calm : Bool
  pn : List (Addr × Obj)
  xe : Value → Shared → Prop
def frs (l : List Env) : List Addr := l.filterMap (·.frame)
abbrev Cx.fs (X : Cx) : List Addr := frs X.outer
def Vis (sc : Scope) (x : Str) : Prop := sc.names.lookup x = some .local ∨ sc.names.lookup x = some .cell ∨ sc.names.lookup x = some .free
def Loc (sc : Scope) (x : Str) : Prop := sc.names.lookup x = some .local ∨ sc.names.lookup x = some .cell
def Look (env : Env) (h : Heap) (m : Str → Option Value) (x : Str) (u : Value) : Prop :=
  (env.kindOf x = some .local ∧ m x = some u) ∨ ((env.kindOf x = some .cell ∨ env.kindOf x = some .free) ∧ ∃ c, env.cells.lookup x = some c ∧ h.IsCell c (some u))
structure Cx.Ok (X : Cx) : Prop where
  mod : Mod X.K X.mg X.base
  kind : X.env.scope.kind = .function
  glob : X.env.globals = mainGlobals
  blt : X.env.builtins = builtinsNs
  above : X.s₀.heap.objs.size ≤ X.env.locals
  inj : ∀ x y c, X.env.cells.lookup x = some c → X.env.cells.lookup y = some c → x = y
  has : ∀ x, (X.env.kindOf x = some .cell ∨ X.env.kindOf x = some .free) → ∃ c, X.env.cells.lookup x = some c
  cab : ∀ x c, X.fn x = true → X.env.cells.lookup x = some c → X.s₀.heap.objs.size ≤ c
  hd : X.calm = true → HBp X.base X.pn X.A
  frames : X.A.frames = some X.stack
  stk : X.stack = X.outer ∨ (X.stack = X.env :: X.outer ∧ X.env.frame = some X.env.locals)
  exf : ∀ b ∈ X.ex, b ≠ X.env.locals ∧ ∀ x c, X.env.cells.lookup x = some c → c ≠ b
  bs : ∀ b o, X.base.get? b = some o → X.s₀.heap.get? b = some o ∧ X.H₀ b = none
  bsz : X.base.objs.size ≤ X.s₀.heap.objs.size
  noex : ∀ b o, X.base.get? b = some o → b ∉ X.ex
  exfs : ∀ b ∈ X.ex, b ∉ X.fs
  funs : X.s₀.heap.FunFrames X.base X.outer
  frf : ∀ b ∈ X.fs, X.H₀ b = none
structure Inv (X : Cx) (pins : List (Addr × Obj)) (σ : List (Option V)) (H : Hp) (s : Shared) : Prop where
  ok : X.Ok
  os : s.os = X.s₀.os
  bare : AllBare s.gens
  base : Un X.fs X.ex X.H₀ H X.s₀.heap s.heap
  loc : ∃ m, s.heap.Ns X.env.locals m ∧ ∀ (i : Nat) (x : Str) (v : V), X.N[i]? = some x → σ[i]? = some (some v) → Vis X.env.scope x → ∃ u, RelV v u ∧ Look X.env s.heap m x u
  cell : ∀ x c, X.env.cells.lookup x = some c → ∃ v, s.heap.IsCell c v
  free : H X.env.locals = none
  freeC : ∀ x c, X.env.cells.lookup x = some c → H c = none
  pin : ∀ p ∈ X.pn ++ pins, s.heap.get? p.1 = some p.2 ∧ H p.1 = none ∧ p.1 ≠ X.env.locals ∧ p.1 ∉ X.fs ∧ ∀ v, p.2.data ≠ .cell v
  hok : HOk X.prog X.w H s.heap
  len : σ.length = X.N.length
section
variable {X : Cx} {pins : List (Addr × Obj)} {σ : List (Option V)} {H H' : Hp} {s : Shared} {h' : Heap}
theorem Cx.Ok.nofr (ok : X.Ok) {b : Addr} {o : Obj} (e : X.base.get? b = some o) : b ∉ X.fs := fun hb => by
  have := (ok.funs.mem hb).1
  rw [e] at this; cases this
theorem Inv.bs (I : Inv X pins σ H s) : ∀ b o, X.base.get? b = some o → s.heap.get? b = some o ∧ H b = none := fun b o e =>
  ⟨I.base.keep b o (I.ok.bs b o e).1 (I.ok.bs b o e).2 (I.ok.nofr e) (I.ok.noex b o e), I.base.free b o (I.ok.bs b o e).1 (I.ok.bs b o e).2 (I.ok.noex b o e)⟩
theorem Inv.bk (I : Inv X pins σ H s) : ∀ b o, X.base.get? b = some o → s.heap.get? b = some o := fun b o e => (I.bs b o e).1
theorem Inv.mod (I : Inv X pins σ H s) : Mod X.K X.mg X.base := I.ok.mod
theorem Inv.hb (I : Inv X pins σ H s) (hc : X.calm = true) : HB s.heap X.A := by
  rcases I.ok.hd hc with h | ⟨a, oe, vs, e1, e2, e3⟩
  · exact .inl h
  · exact .inr ⟨a, oe, vs, e1, e2.elim (I.bk a oe) fun m => (I.pin (a, oe) (List.mem_append_left _ m)).1, e3⟩
theorem Inv.hna (I : Inv X pins σ H s) (hc : X.calm = true) {it : Addr} (f3 : it ∈ X.ex ∨ X.s₀.heap.objs.size ≤ it) (f5 : ∀ p ∈ X.pn ++ pins, p.1 ≠ it) : ∀ a, X.A.handled = some (.ref a) → a ≠ it := fun a ea z => by
  subst z
  rcases I.ok.hd hc with h | ⟨b, oe, vs, e1, e2, e3⟩
  · rw [h] at ea; cases ea
  · rw [e1] at ea
    cases ea
    rcases e2 with e2 | e2
    · rcases f3 with z | z
      · exact I.ok.noex _ _ e2 z
      · exact absurd (Nat.lt_of_lt_of_le (Heap.lt_size e2) I.ok.bsz) (Nat.not_lt.mpr z)
    · exact f5 _ (List.mem_append_left _ e2) rfl
theorem Inv.kIn (I : Inv X pins σ H s) : X.K.In s.heap := I.ok.mod.kin.keeps I.bk
theorem Inv.fr (I : Inv X pins σ H s) : ∃ m, Fr X.base X.env.locals s.heap m :=
  let ⟨m, hn, _⟩ := I.loc
  ⟨m, hn, I.bk, Nat.le_trans I.ok.bsz I.ok.above⟩
theorem Inv.lt (I : Inv X pins σ H s) : X.env.locals < s.heap.objs.size := let ⟨_, hn, _⟩ := I.loc; hn.lt
theorem Inv.sz (I : Inv X pins σ H s) : X.s₀.heap.objs.size ≤ s.heap.objs.size := Nat.le_trans I.ok.above (Nat.le_of_lt I.lt)
theorem Inv.nofs (I : Inv X pins σ H s) {a : Addr} (h : s.heap.objs.size ≤ a) : a ∉ X.fs := fun hb => by
  obtain ⟨_, o, ho, _⟩ := I.ok.funs.mem hb
  exact absurd (Nat.lt_of_lt_of_le (Heap.lt_size ho) (Nat.le_trans I.sz h)) (Nat.lt_irrefl _)
theorem Inv.cne (I : Inv X pins σ H s) : ∀ x c, X.env.cells.lookup x = some c → c ≠ X.env.locals := fun x c e z => by
  obtain ⟨v, o, ho, hd⟩ := I.cell x c e
  obtain ⟨m, ⟨o', es, ep, ho', hd', _⟩, _⟩ := I.loc
  rw [z, ho'] at ho; cases ho; rw [hd'] at hd; cases hd
theorem Inv.funs (I : Inv X pins σ H s) : s.heap.FunFrames X.base X.outer := by
  have all : ∀ (l : List Env), (∀ b ∈ frs l, b ∈ X.fs) → X.s₀.heap.FunFrames X.base l → s.heap.FunFrames X.base l := by
    intro l
    induction l with
    | nil => intro _ _; trivial
    | cons env r ih =>
      intro hs hl
      obtain ⟨hk, ⟨L, o, hf, hn, ho, hd⟩, hr⟩ := hl
      have hL : L ∈ X.fs := hs L (by unfold frs; rw [List.filterMap_cons, hf]; exact List.mem_cons_self)
      obtain ⟨sl, e⟩ := I.base.slot L o ho (I.ok.frf L hL) hL fun z => I.ok.exfs L z hL
      exact ⟨hk, ⟨L, _, hf, hn, e, hd⟩, ih (fun b hb => hs b (by unfold frs; rw [List.filterMap_cons, hf]; exact List.mem_cons_of_mem _ hb)) hr⟩
  exact all X.outer (fun _ hb => hb) I.ok.funs
theorem Inv.stack (I : Inv X pins σ H s) : s.heap.FunFrames X.base X.stack := by
  rcases I.ok.stk with e | ⟨e, hf⟩
  · rw [e]; exact I.funs
  · rw [e]
    obtain ⟨m, hn, _⟩ := I.loc
    refine .cons (by rw [I.ok.kind]; decide) hf hn ?_ I.funs
    exact Heap.get?_none_of_le (Nat.le_trans I.ok.bsz I.ok.above)
theorem Inv.stkSub (I : Inv X pins σ H s) : ∀ b ∈ frs X.stack, b ∈ X.env.locals :: X.fs := fun b hb => by
  rcases I.ok.stk with e | ⟨e, hf⟩
  · rw [e] at hb; exact List.mem_cons_of_mem _ hb
  · rw [e] at hb
    unfold frs at hb
    rw [List.filterMap_cons, hf] at hb
    exact hb
theorem Inv.stkFree (I : Inv X pins σ H s) : ∀ b ∈ frs X.stack, H b = none := fun b hb => by
  rcases List.mem_cons.mp (I.stkSub b hb) with e | hb
  · rw [e]; exact I.free
  · obtain ⟨_, o, ho, _⟩ := I.ok.funs.mem hb
    exact I.base.free b o ho (I.ok.frf b hb) fun z => I.ok.exfs b z hb
theorem Inv.step {g' : Array GenState} {t' : Nat} {d' : Drawn} {ch : List Addr} (I : Inv X pins σ H s)
    (hch : ∀ b ∈ ch, (b ∈ X.ex ∨ X.s₀.heap.objs.size ≤ b) ∧ b ≠ X.env.locals ∧ (∀ x c, X.env.cells.lookup x = some c → c ≠ b) ∧ ∀ p ∈ X.pn ++ pins, p.1 ≠ b)
    (keep : ∀ b o, b ≠ X.env.locals → b ∉ X.fs → b ∉ ch → s.heap.get? b = some o → H b = none → h'.get? b = some o)
    (slot : ∀ b o, b ≠ X.env.locals → b ∈ X.fs → b ∉ ch → s.heap.get? b = some o → H b = none → ∃ sl, h'.get? b = some { o with slots := sl }) (free : ∀ b o, b ∉ ch → s.heap.get? b = some o → H b = none → H' b = none)
    (there : ∀ b o, b ∉ ch → s.heap.get? b = some o → ∃ o', h'.get? b = some o')
    (tups : ∀ b xs, H b = some (.tup xs) → H' b = some (.tup xs)) (frzs : ∀ b o u, H b = some (.frz o u) → H' b = some (.frz o u)) (tbls : ∀ b ps, H b = some (.tbl ps) → H' b = some (.tbl ps))
    (ns : ∀ m, s.heap.Ns X.env.locals m → h'.Ns X.env.locals m) (hok : HOk X.prog X.w H' h') (hg : AllBare g') :
    Inv X pins σ H' { s with heap := h', gens := g', drawn := d', toks := t' } := by
  have neL : ∀ b o, X.s₀.heap.get? b = some o → b ≠ X.env.locals := fun b o e => Nat.ne_of_lt (Nat.lt_of_lt_of_le (Heap.lt_size e) I.ok.above)
  have neC : ∀ b o, X.s₀.heap.get? b = some o → b ∉ X.ex → b ∉ ch := fun b o e hx hb => by
    rcases (hch b hb).1 with z | z
    · exact hx z
    · exact absurd (Nat.lt_of_lt_of_le (Heap.lt_size e) z) (Nat.lt_irrefl _)
  have cellK : ∀ x c, X.env.cells.lookup x = some c → ∀ v, s.heap.IsCell c v → h'.IsCell c v := fun x c e v ⟨o, ho, hd⟩ => by
    have nch : c ∉ ch := fun z => (hch c z).2.2.1 x c e rfl
    by_cases hc : c ∈ X.fs
    · obtain ⟨sl, q⟩ := slot c o (I.cne x c e) hc nch ho (I.freeC x c e)
      exact ⟨_, q, hd⟩
    · exact ⟨o, keep c o (I.cne x c e) hc nch ho (I.freeC x c e), hd⟩
  refine ⟨I.ok, I.os, hg, ⟨fun b o e n hb hx => ?_, fun b o e n hb hx => ?_, fun b o e n hx => ?_, fun b o e hx => ?_, fun b xs e => tups b xs (I.base.tups b xs e), fun b o xs e => frzs b o xs (I.base.frzs b o xs e), fun b ps e => ?_⟩, ?_, fun x c e => ?_, ?_, fun x c e => ?_, fun p hp => ?_, hok, I.len⟩
  · exact keep b o (neL b o e) hb (neC b o e hx) (I.base.keep b o e n hb hx) (I.base.free b o e n hx)
  · obtain ⟨sl, e1⟩ := I.base.slot b o e n hb hx
    obtain ⟨sl', e2⟩ := slot b _ (neL b o e) hb (neC b o e hx) e1 (I.base.free b o e n hx)
    exact ⟨sl', e2⟩
  · obtain ⟨o', e1⟩ := I.base.there b o e hx
    exact free b o' (neC b o e hx) e1 (I.base.free b o e n hx)
  · obtain ⟨o', e1⟩ := I.base.there b o e hx
    exact there b o' (neC b o e hx) e1
  · exact tbls b ps (I.base.tbls b ps e)
  · obtain ⟨m, hn, hl⟩ := I.loc
    refine ⟨m, ns m hn, fun i x v e1 e2 e3 => ?_⟩
    obtain ⟨u, r, l⟩ := hl i x v e1 e2 e3
    refine ⟨u, r, ?_⟩
    rcases l with l | ⟨k, c, e, z⟩
    · exact .inl l
    · exact .inr ⟨k, c, e, cellK x c e _ z⟩
  · obtain ⟨v, z⟩ := I.cell x c e
    exact ⟨v, cellK x c e v z⟩
  · obtain ⟨m, ⟨o, _, _, ho, _⟩, _⟩ := I.loc
    exact free _ o (fun z => (hch _ z).2.1 rfl) ho I.free
  · obtain ⟨v, o, ho, hd⟩ := I.cell x c e
    exact free c o (fun z => (hch c z).2.2.1 x c e rfl) ho (I.freeC x c e)
  · obtain ⟨e, n, ne, nf, d⟩ := I.pin p hp
    have nch : p.1 ∉ ch := fun z => (hch p.1 z).2.2.2 p hp rfl
    exact ⟨keep p.1 p.2 ne nf nch e n, free p.1 p.2 nch e n, ne, nf, d⟩
theorem Inv.un {t' : Nat} (I : Inv X pins σ H s) (u : Un X.fs [] H H' s.heap h') (hok : HOk X.prog X.w H' h') : Inv X pins σ H' { s with heap := h', toks := t' } := by
  obtain ⟨m, ⟨o, es, ep, ho, r⟩, _⟩ := id I.loc
  obtain ⟨sl, hL⟩ := u.any ho I.free (by simp)
  exact I.step (g' := s.gens) (d' := s.drawn) (ch := []) (fun _ z => nomatch z) (fun b o _ hb _ e n => u.keep b o e n hb (by simp)) (fun b o _ hb _ e n => u.slot b o e n hb (by simp)) (fun b o _ e n => u.free b o e n (by simp)) (fun b o _ e => u.there b o e (by simp)) u.tups u.frzs u.tbls (fun m' hm => by
    obtain ⟨o', es', ep', ho', r'⟩ := hm
    rw [ho] at ho'; cases ho'
    exact ⟨_, es', ep', hL, r'⟩) hok I.bare
theorem Inv.call {g' : Array GenState} {t' : Nat} {d' : Drawn} {ch : List Addr} (I : Inv X pins σ H s) (u : Un (frs X.stack) ch H H' s.heap h') (hok : HOk X.prog X.w H' h') (hg : AllBare g')
    (hch : ∀ b ∈ ch, (b ∈ X.ex ∨ X.s₀.heap.objs.size ≤ b) ∧ b ≠ X.env.locals ∧ (∀ x c, X.env.cells.lookup x = some c → c ≠ b) ∧ ∀ p ∈ X.pn ++ pins, p.1 ≠ b) :
    Inv X pins σ H' { s with heap := h', gens := g', drawn := d', toks := t' } := by
  obtain ⟨m, ⟨o, es, ep, ho, r⟩, _⟩ := id I.loc
  obtain ⟨sl, hL⟩ := u.any ho I.free fun z => (hch _ z).2.1 rfl
  exact I.step (ch := ch) hch (fun b o hL hb hc e n => u.keep b o e n (fun z => (List.mem_cons.mp (I.stkSub b z)).elim hL hb) hc) (fun b o _ _ hc e n => u.any e n hc) (fun b o hc e n => u.free b o e n hc) (fun b o hc e => u.there b o e hc) u.tups u.frzs u.tbls (fun m' hm => by
    obtain ⟨o', es', ep', ho', r'⟩ := hm
    rw [ho] at ho'; cases ho'
    exact ⟨_, es', ep', hL, r'⟩) hok hg
theorem Inv.turned {t' : Nat} {it : Addr} (I : Inv X pins σ H s) (k : ∀ b o, b ≠ it → s.heap.get? b = some o → h'.get? b = some o) (hn : H it = none) (hL : it ≠ X.env.locals)
    (h1 : it ∈ X.ex ∨ X.s₀.heap.objs.size ≤ it) (h2 : ∀ x c, X.env.cells.lookup x = some c → c ≠ it) (h3 : ∀ p ∈ X.pn ++ pins, p.1 ≠ it) : Inv X pins σ H { s with heap := h', toks := t' } := by
  have nit : ∀ b u, H b = some u → b ≠ it := fun b u e z => by rw [z, hn] at e; cases e
  refine I.step (g' := s.gens) (d' := s.drawn) (ch := [it]) (fun b hb => ?_) (fun b o _ _ hc e _ => k b o (fun z => hc (by simp [z])) e) (fun b o _ _ hc e _ => ⟨o.slots, k b o (fun z => hc (by simp [z])) e⟩) (fun _ _ _ _ n => n)
    (fun b o hc e => ⟨o, k b o (fun z => hc (by simp [z])) e⟩) (fun _ _ e => e) (fun _ _ _ e => e) (fun b ps e => (by rw [e])) (fun m hm => ?_) (fun b u e => ?_) I.bare
  · have e : b = it := by simpa using hb
    subst e
    exact ⟨h1, hL, h2, h3⟩
  · obtain ⟨o, es, ep, ho, r⟩ := hm
    exact ⟨o, es, ep, k _ o (Ne.symm hL) ho, r⟩
  · refine (I.hok b u e).stay (fun c v hc q => k c v ?_ q) (fun _ q => q) fun _ _ q => q
    rcases hc with z | z
    · rw [z]; exact nit b u e
    · exact nit c _ z
theorem Inv.tok (I : Inv X pins σ H s) (t : Nat) : Inv X pins σ H { s with toks := t } := I.un (h' := s.heap) (t' := t) Un.refl I.hok
theorem Inv.kept {t' : Nat} (I : Inv X pins σ H s) (k : ∀ b u, s.heap.get? b = some u → h'.get? b = some u) : Inv X pins σ H { s with heap := h', toks := t' } := I.un (Un.kept k) (I.hok.kept k)
theorem Inv.laid {a : Addr} {o : HO} {t' : Nat} (I : Inv X pins σ H s) (k : ∀ b u, s.heap.get? b = some u → h'.get? b = some u) (hp : s.heap.objs.size ≤ a) (new : ObjOk X.prog X.w (upd H a o) h' a o) :
    Inv X pins σ (upd H a o) { s with heap := h', toks := t' } := I.un (Un.laid k hp (I.hok.fresh hp)) (I.hok.laid k hp new)
theorem Inv.write {x e : Addr} {o : HO} {t' : Nat} (I : Inv X pins σ H s) (mu : Mut (H x)) (he : e = x ∨ H e = some (.own x)) (k : ∀ b u, b ≠ e → s.heap.get? b = some u → h'.get? b = some u) (heo : ∃ u, h'.get? e = some u)
    (new : ObjOk X.prog X.w (upd H x o) h' x o) : Inv X pins σ (upd H x o) { s with heap := h', toks := t' } := I.un (Un.write mu he k heo) (I.hok.write mu he k heo new)
theorem Inv.weak {σ' : List (Option V)} (I : Inv X pins σ H s) (hl : σ'.length = σ.length) (w : ∀ (i : Nat) v, σ'[i]? = some (some v) → σ[i]? = some (some v)) : Inv X pins σ' H s :=
  ⟨I.ok, I.os, I.bare, I.base, let ⟨m, hn, hl'⟩ := I.loc; ⟨m, hn, fun i x v e1 e2 e3 => hl' i x v e1 (w i v e2) e3⟩, I.cell, I.free, I.freeC, I.pin, I.hok, hl.trans I.len⟩
theorem Inv.pins_of {pins' : List (Addr × Obj)} (I : Inv X pins σ H s) (h : ∀ p ∈ pins', s.heap.get? p.1 = some p.2 ∧ H p.1 = none ∧ p.1 ≠ X.env.locals ∧ p.1 ∉ X.fs ∧ ∀ v, p.2.data ≠ .cell v) : Inv X pins' σ H s :=
  ⟨I.ok, I.os, I.bare, I.base, I.loc, I.cell, I.free, I.freeC, fun p hp => (List.mem_append.mp hp).elim (fun z => I.pin p (List.mem_append_left _ z)) (h p), I.hok, I.len⟩
theorem nodup_ix {N : List Str} (hN : N.Nodup) {i j : Nat} {x : Str} (a : N[i]? = some x) (b : N[j]? = some x) : i = j := by
  obtain ⟨h1, e1⟩ := List.getElem?_eq_some_iff.mp a
  obtain ⟨h2, e2⟩ := List.getElem?_eq_some_iff.mp b
  exact (List.getElem_inj hN).mp (e1.trans e2.symm)
theorem store_ok2 {M : Model} {A : Around} {E : Value → Shared → Prop} {i : Nat} {x : Str} {v : V} {u : Value} {Q : Unit → Shared → Prop} (I : Inv X pins σ H s) (hN : X.N.Nodup) (hi : X.N[i]? = some x) (hx : Loc X.env.scope x) (r : RelV v u)
    (h : ∀ s', Inv X pins (σ.set i (some v)) H s' → (∃ a, Heap.SameBut a s.heap s'.heap ∧ (a = X.env.locals ∨ X.env.cells.lookup x = some a)) → Q () s') (hf : X.fn x = true ∨ X.env.scope.names.lookup x = some .local := by first | exact .inl rfl | exact .inr rfl | assumption) : wpAny M A (storeName X.env x u) Q E s := by
  obtain ⟨m, hn, hl⟩ := id I.loc
  have hcls : (X.env.scope.kind == .class || (X.env.scope.kind == .module && X.env.locals != X.env.globals)) = false := by rw [I.ok.kind]; rfl
  have hiσ : i < σ.length := by rw [I.len]; exact (List.getElem?_eq_some_iff.mp hi).1
  have cne := I.cne
  have tracked : ∀ {a : Addr} {h' : Heap}, (∃ o, s.heap.get? a = some o ∧ H a = none) → Heap.SameBut a s.heap h' → HOk X.prog X.w H h' := fun {a h'} ha hs b ob e => by
    obtain ⟨_, _, hfree⟩ := ha
    refine (I.hok b ob e).stay (fun c w' hc q => (hs.2 c ?_).trans q) (fun _ q => q) fun _ _ q => q
    rintro rfl
    rcases hc with rfl | hc
    · rw [hfree] at e; cases e
    · rw [hfree] at hc; cases hc
  rcases hx with hk | hk
  · refine wpAny_storeName_local hk hn (fun h' hn' hs => ?_) hcls
    obtain ⟨oL, _, _, hoL, _⟩ := id hn
    refine h _ ⟨I.ok, I.os, I.bare, ⟨fun b o e n hb hx => ?_, fun b o e n hb hx => ?_, I.base.free, fun b o e hx => ?_, I.base.tups, I.base.frzs, I.base.tbls⟩, ⟨_, hn', fun j y v' e1 e2 e3 => ?_⟩, fun y c e => ?_, I.free, I.freeC, fun p hp => ?_, tracked ⟨oL, hoL, I.free⟩ hs, by simpa using I.len⟩ ⟨_, hs, .inl rfl⟩
    · exact (hs.2 b (Nat.ne_of_lt (Nat.lt_of_lt_of_le (Heap.lt_size e) I.ok.above))).trans (I.base.keep b o e n hb hx)
    · obtain ⟨sl, e1⟩ := I.base.slot b o e n hb hx
      exact ⟨sl, (hs.2 b (Nat.ne_of_lt (Nat.lt_of_lt_of_le (Heap.lt_size e) I.ok.above))).trans e1⟩
    · obtain ⟨o', e1⟩ := I.base.there b o e hx
      exact ⟨o', (hs.2 b (Nat.ne_of_lt (Nat.lt_of_lt_of_le (Heap.lt_size e) I.ok.above))).trans e1⟩
    · by_cases hj : j = i
      · subst hj
        rw [hi] at e1; cases e1
        rw [List.getElem?_set_self hiσ] at e2
        cases e2
        exact ⟨u, r, .inl ⟨hk, by simp⟩⟩
      · rw [List.getElem?_set_ne (Ne.symm hj)] at e2
        obtain ⟨u', r', q⟩ := hl j y v' e1 e2 e3
        refine ⟨u', r', ?_⟩
        rcases q with ⟨k, e⟩ | ⟨k, c, e, z⟩
        · refine .inl ⟨k, ?_⟩
          have : y ≠ x := fun e => hj (nodup_ix hN e1 (e ▸ hi))
          simp [this, e]
        · exact .inr ⟨k, c, e, z.sameBut hs (cne y c e)⟩
    · obtain ⟨w', z⟩ := I.cell y c e
      exact ⟨w', z.sameBut hs (cne y c e)⟩
    · obtain ⟨e, n, ne, nf, d⟩ := I.pin p hp
      exact ⟨(hs.2 p.1 ne).trans e, n, ne, nf, d⟩
  · have hfn : X.fn x = true := by
      rcases hf with z | z
      · exact z
      · rw [z] at hk; cases hk
    obtain ⟨c, hc⟩ := I.ok.has x (.inl hk)
    obtain ⟨w', z⟩ := I.cell x c hc
    refine wpAny_storeName_cell I.ok.kind hk hc z (fun h' hc' hs => ?_)
    obtain ⟨oc, hoc, hocd⟩ := id z
    refine h { s with heap := h' } ⟨I.ok, I.os, I.bare, ⟨fun b o e n hb hx => ?_, fun b o e n hb hx => ?_, I.base.free, fun b o e hx => ?_, I.base.tups, I.base.frzs, I.base.tbls⟩, ⟨m, hn.sameBut hs (Ne.symm (cne x c hc)), fun j y v' e1 e2 e3 => ?_⟩, fun y c' e => ?_, I.free, I.freeC, fun p hp => ?_, tracked ⟨oc, hoc, I.freeC x c hc⟩ hs, by simpa using I.len⟩ ⟨c, hs, .inr hc⟩
    · exact (hs.2 b (Nat.ne_of_lt (Nat.lt_of_lt_of_le (Heap.lt_size e) (I.ok.cab x c hfn hc)))).trans (I.base.keep b o e n hb hx)
    · obtain ⟨sl, e1⟩ := I.base.slot b o e n hb hx
      exact ⟨sl, (hs.2 b (Nat.ne_of_lt (Nat.lt_of_lt_of_le (Heap.lt_size e) (I.ok.cab x c hfn hc)))).trans e1⟩
    · obtain ⟨o', e1⟩ := I.base.there b o e hx
      exact ⟨o', (hs.2 b (Nat.ne_of_lt (Nat.lt_of_lt_of_le (Heap.lt_size e) (I.ok.cab x c hfn hc)))).trans e1⟩
    · by_cases hj : j = i
      · subst hj
        rw [hi] at e1; cases e1
        rw [List.getElem?_set_self hiσ] at e2
        cases e2
        exact ⟨u, r, .inr ⟨.inl hk, c, hc, hc'⟩⟩
      · rw [List.getElem?_set_ne (Ne.symm hj)] at e2
        obtain ⟨u', r', q⟩ := hl j y v' e1 e2 e3
        refine ⟨u', r', ?_⟩
        rcases q with q | ⟨k, c', e, z'⟩
        · exact .inl q
        · refine .inr ⟨k, c', e, z'.sameBut hs ?_⟩
          rintro rfl
          exact hj (nodup_ix hN e1 (I.ok.inj _ _ _ e hc ▸ hi))
    · by_cases hcc : c' = c
      · subst hcc; exact ⟨_, hc'⟩
      · obtain ⟨w2, z2⟩ := I.cell y c' e
        exact ⟨w2, z2.sameBut hs hcc⟩
    · obtain ⟨e, n, ne, nf, d⟩ := I.pin p hp
      refine ⟨(hs.2 p.1 ?_).trans e, n, ne, nf, d⟩
      intro q
      rw [q, hoc] at e
      have q' : oc = p.2 := Option.some.inj e
      exact d w' (by rw [← q']; exact hocd)
theorem store_ok {M : Model} {A : Around} {E : Value → Shared → Prop} {i : Nat} {x : Str} {v : V} {u : Value} {Q : Unit → Shared → Prop} (I : Inv X pins σ H s) (hN : X.N.Nodup) (hi : X.N[i]? = some x) (hx : Loc X.env.scope x) (r : RelV v u)
    (h : ∀ s', Inv X pins (σ.set i (some v)) H s' → Q () s') (hf : X.fn x = true ∨ X.env.scope.names.lookup x = some .local := by first | exact .inl rfl | exact .inr rfl | assumption) : wpAny M A (storeName X.env x u) Q E s :=
  store_ok2 I hN hi hx r (fun s' I' _ => h s' I') hf
theorem Inv.call' {s' : Shared} {ch : List Addr} (I : Inv X pins σ H s) (ho : s'.os = s.os) (u : Un (frs X.stack) ch H H' s.heap s'.heap) (hok : HOk X.prog X.w H' s'.heap) (hg : AllBare s'.gens)
    (hch : ∀ b ∈ ch, (b ∈ X.ex ∨ X.s₀.heap.objs.size ≤ b) ∧ b ≠ X.env.locals ∧ (∀ x c, X.env.cells.lookup x = some c → c ≠ b) ∧ ∀ p ∈ X.pn ++ pins, p.1 ≠ b) : Inv X pins σ H' s' := by
  obtain ⟨h', g', d', t', o'⟩ := s'
  have e : o' = s.os := ho
  subst e
  exact I.call (g' := g') (t' := t') (d' := d') u hok hg hch
end
abbrev XK := Value → Option Addr → Hp → Prop
abbrev St := List (Option V)
abbrev VK := V → Hp → Prop
abbrev TE := St → Hp → VK → Prop
abbrev TT := St → Hp → (Bool → Hp → Prop) → Prop
abbrev TA := St → Hp → (List V → Hp → Prop) → Prop
structure Ends where
  nx : St → Hp → Prop
  rt : VK
  bk : St → Hp → Prop := fun _ _ => False
  ct : St → Hp → Prop := fun _ _ => False
abbrev TS := Ends → St → Hp → Prop
def EP (X : Cx) (pins : List (Addr × Obj)) (σ : St) (Q : VK) (u : Value) (s' : Shared) : Prop := ∃ v H', Inv X pins σ H' s' ∧ RelV v u ∧ Q v H'
def TP (X : Cx) (pins : List (Addr × Obj)) (σ : St) (Q : Bool → Hp → Prop) (b : Bool) (s' : Shared) : Prop := ∃ H', Inv X pins σ H' s' ∧ Q b H'
def AP (X : Cx) (pins : List (Addr × Obj)) (σ : St) (Q : List V → Hp → Prop) (us : List Value) (s' : Shared) : Prop := ∃ vs H', Inv X pins σ H' s' ∧ Vals vs us ∧ Q vs H'
def SP (X : Cx) (pins : List (Addr × Obj)) (D : Ends) (f : Flow) (s' : Shared) : Prop :=
  match f with
  | .next => ∃ σ' H', Inv X pins σ' H' s' ∧ D.nx σ' H'
  | .brk => ∃ σ' H', Inv X pins σ' H' s' ∧ D.bk σ' H'
  | .cont => ∃ σ' H', Inv X pins σ' H' s' ∧ D.ct σ' H'
  | .ret u => ∃ v σ' H', Inv X pins σ' H' s' ∧ RelV v u ∧ D.rt v H'
def PE (X : Cx) (e : Expr) (t : TE) : Prop :=
  ∀ (pins : List (Addr × Obj)) (s : Shared) (σ : St) (H : Hp) (Q : VK), Inv X pins σ H s → t σ H Q → wpAny (model X.prog X.w) X.A (eval e X.env) (EP X pins σ Q) X.xe s
def PT (X : Cx) (e : Expr) (t : TT) : Prop :=
  ∀ (pins : List (Addr × Obj)) (s : Shared) (σ : St) (H : Hp) (Q : Bool → Hp → Prop), Inv X pins σ H s → t σ H Q → wpAny (model X.prog X.w) X.A (isTrue e X.env (eval e X.env)) (TP X pins σ Q) X.xe s
def PW (X : Cx) (e : Expr) (t : TT) : Prop :=
  ∀ (whole : Sem Value) (pins : List (Addr × Obj)) (s : Shared) (σ : St) (H : Hp) (Q : Bool → Hp → Prop), Inv X pins σ H s → t σ H Q → wpAny (model X.prog X.w) X.A (isTrue e X.env whole) (TP X pins σ Q) X.xe s
theorem PW.pt {X : Cx} {e : Expr} {t : TT} (h : PW X e t) : PT X e t := h _
def PA (X : Cx) (es : List Expr) (t : TA) : Prop :=
  ∀ (pos : Pos) (pins : List (Addr × Obj)) (s : Shared) (σ : St) (H : Hp) (Q : List V → Hp → Prop), Inv X pins σ H s → t σ H Q → wpAny (model X.prog X.w) X.A (spliced (backTo pos (starEach es X.env))) (AP X pins σ Q) X.xe s
def PS (X : Cx) (st : Stmt) (t : TS) : Prop :=
  ∀ (pins : List (Addr × Obj)) (s : Shared) (σ : St) (H : Hp) (D : Ends), Inv X pins σ H s → t D σ H → wpAny (model X.prog X.w) X.A (exec st X.env) (SP X pins D) X.xe s
def PSs (X : Cx) (st : List Stmt) (t : TS) : Prop :=
  ∀ (pins : List (Addr × Obj)) (s : Shared) (σ : St) (H : Hp) (D : Ends), Inv X pins σ H s → t D σ H → wpAny (model X.prog X.w) X.A (execs st X.env) (SP X pins D) X.xe s
theorem thn {α : Type} {t : Sem α} {Q Q' : α → Shared → Prop} {M : Model} {A : Around} {E : Value → Shared → Prop} {s : Shared} (h : wpAny M A t Q E s) (hQ : ∀ a s, Q a s → Q' a s) : wpAny M A t Q' E s := wpAny_mono h hQ fun _ _ x => x
end L2
namespace L2
open PySem PySem.Spec PyProof.Rows
section
variable {X : Cx}
theorem bin {a b : Expr} {ta tb : TE} (ha : PE X a ta) (hb : PE X b tb) {pins : List (Addr × Obj)} {s : Shared} {σ : St} {H : Hp} {R : V → V → Hp → Prop} (I : Inv X pins σ H s) (h : ta σ H fun x H1 => tb σ H1 fun y H2 => R x y H2)
    {α : Type} {Q : α → Shared → Prop} {f : Value → Value → Sem α}
    (hf : ∀ v u s2 x y H2, Inv X pins σ H2 s2 → RelV x v → RelV y u → R x y H2 → wpAny (model X.prog X.w) X.A (f v u) Q X.xe s2) :
    wpAny (model X.prog X.w) X.A (eval a X.env) (fun v s₁ => wpAny (model X.prog X.w) X.A (eval b X.env) (fun u s₂ => wpAny (model X.prog X.w) X.A (f v u) Q X.xe s₂) X.xe s₁) X.xe s := by
  refine thn (ha pins s σ H _ I h) fun v s1 ⟨x, H1, I1, r1, q1⟩ => ?_
  refine thn (hb pins s1 σ H1 _ I1 q1) fun u s2 ⟨y, H2, I2, r2, q2⟩ => ?_
  exact hf v u s2 x y H2 I2 r1 r2 q2
def tVar (i : Nat) : TE := fun σ H Q => ∃ v, σ[i]? = some (some v) ∧ Q v H
def tC (v : V) : TE := fun _ H Q => Q v H
theorem pe_var {i : Nat} {x : Str} {pos : Pos} (hN : X.N[i]? = some x) (hv : Vis X.env.scope x) (hd : (x == ("__debug__" : Str)) = false := by decide) (hcd : (x == ("__classdict__" : Str)) = false := by decide) : PE X (.Name x pos) (tVar i) := by
  intro pins s σ H Q I h
  obtain ⟨v, e, h⟩ := h
  obtain ⟨m, hn, hl⟩ := I.loc
  obtain ⟨u, r, l⟩ := hl i x v hN e hv
  have fin : EP X pins σ Q u s := ⟨v, H, I, r, h⟩
  rcases l with ⟨hk, hm⟩ | ⟨hk, c, hc, hcell⟩
  · exact wpAny_Name (wpAny_loadName_local I.ok.kind hk hn hm fin) hd
  · rcases hk with hk | hk
    · exact wpAny_Name (wpAny_loadName_cell I.ok.kind hk hc hcell fin) hd
    · exact wpAny_Name (wpAny_loadName_free I.ok.kind hk hc hcell fin hcd) hd
theorem pe_int {i j pos} : PE X (.Constant (.int i) j pos) (tC (.int i)) := fun _ _ _ H _ I h => wpAny_Constant_int ⟨.int i, H, I.tok _, ⟨_, rfl⟩, h⟩
theorem pe_bl {b j pos} : PE X (.Constant (.bool b) j pos) (tC (.bl b)) := fun _ _ _ H _ I h => Constant_bool ⟨.bl b, H, I, rfl, h⟩
theorem pe_non {j pos} : PE X (.Constant .none j pos) (tC .non) := fun _ _ _ H _ I h => Constant_none ⟨.non, H, I, rfl, h⟩
theorem pe_str {x j pos} : PE X (.Constant (.str x) j pos) (tC (.str x)) := fun _ _ _ H _ I h => Calls.Constant_str ⟨.str x, H, I.tok _, ⟨_, rfl⟩, h⟩
def Gl (X : Cx) (x : Str) : Prop := X.env.kindOf x = some .globalImplicit
theorem ld_glob {E : Value → Shared → Prop} {pins : List (Addr × Obj)} {s : Shared} {σ : St} {H : Hp} {x : Str} {u : Value} {pos : Pos} {Q : Value → Shared → Prop} (I : Inv X pins σ H s) (hg : Gl X x) (hm : X.mg x = some u) (h : Q u s)
    (hd : (x == ("__debug__" : Str)) = false := by decide) : wpAny (model X.prog X.w) X.A (eval (.Name x pos) X.env) Q E s :=
  Calls.Name_function_global I.ok.kind hg (Calls.loadGlobal_global (by rw [I.ok.glob]; exact I.mod.glob.keeps I.bk) hm h) hd
theorem ld_blt {E : Value → Shared → Prop} {pins : List (Addr × Obj)} {s : Shared} {σ : St} {H : Hp} {x : Str} {u : Value} {pos : Pos} {Q : Value → Shared → Prop} (I : Inv X pins σ H s) (hg : Gl X x) (hm : X.mg x = none) (hv : bootBuiltins x = some u) (h : Q u s)
    (hn : x ≠ "__name__" := by decide) (hd : (x == ("__debug__" : Str)) = false := by decide) : wpAny (model X.prog X.w) X.A (eval (.Name x pos) X.env) Q E s := by
  obtain ⟨mb, h1, h2⟩ := I.mod.blt
  exact Calls.Name_function_global I.ok.kind hg (Calls.loadGlobal_builtin (by rw [I.ok.glob]; exact I.mod.glob.keeps I.bk) hm (by rw [I.ok.blt]; exact h1.keeps I.bk) ((h2 x hn).trans hv) h) hd
theorem pe_bltn {x : Str} {v : V} {u : Value} {pos : Pos} (hg : Gl X x) (hm : X.mg x = none) (hv : bootBuiltins x = some u) (r : RelV v u) (hn : x ≠ "__name__" := by decide) (hd : (x == ("__debug__" : Str)) = false := by decide) : PE X (.Name x pos) (tC v) :=
  fun _ _ _ H _ I h => ld_blt I hg hm hv ⟨v, H, I, r, h⟩ hn hd
variable {a b : Expr} {ta tb : TE} {pos : Pos}
def PC (X : Cx) (op : CmpOp) (a b : Expr) (t : TE) : Prop :=
  ∀ (pins : List (Addr × Obj)) (s : Shared) (σ : St) (H : Hp) (Q : VK), Inv X pins σ H s → t σ H Q →
    wpAny (model X.prog X.w) X.A (eval a X.env) (fun v s₁ => wpAny (model X.prog X.w) X.A (eval b X.env) (fun u s₂ => wpAny (model X.prog X.w) X.A (compareOp op v u) (EP X pins σ Q) X.xe s₂) X.xe s₁) X.xe s
def tB (t : TE) : TT := fun σ H Q => t σ H fun x H1 => ∃ c, x = .bl c ∧ Q c H1
theorem pe_cmp {op : CmpOp} {t : TE} (h : PC X op a b t) (h1 : behindInMarks op b = false := by first | exact nobehind _ (by decide) (by decide) | rfl) : PE X (.Compare a [op] [b] pos) t := fun pins s σ H Q I hw => wpAny_Compare1 (h pins s σ H Q I hw) h1
theorem pt_cmp {op : CmpOp} {t : TE} (h : PC X op a b t) (h1 : behindInMarks op b = false := by first | exact nobehind _ (by decide) (by decide) | rfl) : PT X (.Compare a [op] [b] pos) (tB t) := by
  intro pins s σ H Q I hw
  refine wpAny_isTrue_Compare1 (thn (h pins s σ H _ I hw) fun v s1 h1 => thn h1 fun u s2 h2 => thn h2 fun c s3 ⟨x, H1, I1, r1, q1⟩ => ?_) h1
  obtain ⟨d, rfl, q⟩ := q1
  cases r1
  exact wpAny_truthy_bool ⟨H1, I1, q⟩
theorem pt_val {e : Expr} {t : TE} (h : PE X e t) (he : ∀ whole, isTrue e X.env whole = (do let v ← whole; standAt e.pos; holding [v] (truthy v)) := by intro _; rfl) : PT X e (tB t) := by
  intro pins s σ H Q I hw
  refine isTrue_plain (thn (h pins s σ H _ I hw) fun v s1 ⟨x, H1, I1, r1, q1⟩ => ?_) (he _)
  obtain ⟨d, rfl, q⟩ := q1
  cases r1
  exact wpAny_truthy_bool ⟨H1, I1, q⟩
variable {tA tB' : TT} {rest : List Expr}
def tAnd (t u : TT) : TT := fun σ H Q => t σ H fun c H1 => if c = true then u σ H1 Q else Q false H1
def tOr (t u : TT) : TT := fun σ H Q => t σ H fun c H1 => if c = true then Q true H1 else u σ H1 Q
def tNot (t : TT) : TT := fun σ H Q => t σ H fun c H1 => Q (!c) H1
theorem pw_and1 (ha : PT X a tA) : PW X (.BoolOp .And [a] pos) tA := by
  intro wh pins s σ H Q I h
  refine isTrue_and (thn (ha pins s σ H Q I h) fun c s1 e => ?_)
  cases c with
  | true => exact isTrue_and_nil e
  | false => exact e
theorem pw_or1 (ha : PT X a tA) : PW X (.BoolOp .Or [a] pos) tA := by
  intro wh pins s σ H Q I h
  refine isTrue_or (thn (ha pins s σ H Q I h) fun c s1 e => ?_)
  cases c with
  | false => exact isTrue_or_nil e
  | true => exact e
theorem pw_and (ha : PT X a tA) (hb : PW X (.BoolOp .And (b :: rest) pos) tB') : PW X (.BoolOp .And (a :: b :: rest) pos) (tAnd tA tB') := by
  intro wh pins s σ H Q I h
  refine isTrue_and (thn (ha pins s σ H _ I h) fun c s1 ⟨H1, I1, q1⟩ => ?_)
  cases c with
  | true => exact hb wh pins s1 σ H1 Q I1 q1
  | false => exact ⟨H1, I1, q1⟩
theorem pw_or (ha : PT X a tA) (hb : PW X (.BoolOp .Or (b :: rest) pos) tB') : PW X (.BoolOp .Or (a :: b :: rest) pos) (tOr tA tB') := by
  intro wh pins s σ H Q I h
  refine isTrue_or (thn (ha pins s σ H _ I h) fun c s1 ⟨H1, I1, q1⟩ => ?_)
  cases c with
  | true => exact ⟨H1, I1, q1⟩
  | false => exact hb wh pins s1 σ H1 Q I1 q1
theorem pt_not (ha : PT X a tA) : PT X (.UnaryOp .Not a pos) (tNot tA) := by
  intro pins s σ H Q I h
  exact isTrue_not (ha pins s σ H (fun c H1 => Q (!c) H1) I h)
def tAndV (ta tb : TE) : TE := fun σ H Q => ta σ H fun x H1 => ∃ c, x = .bl c ∧ if c = true then tb σ H1 Q else Q (.bl false) H1
def tOrV (ta tb : TE) : TE := fun σ H Q => ta σ H fun x H1 => ∃ c, x = .bl c ∧ if c = true then Q (.bl true) H1 else tb σ H1 Q
theorem pe_one {op} {t : TE} (h : PE X a t) : PE X (.BoolOp op [a] pos) t := fun pins s σ H Q I hw => BoolOp_one (h pins s σ H Q I hw)
theorem pe_and (ha : PE X a ta) (hb : PE X (.BoolOp .And (b :: rest) pos) tb) : PE X (.BoolOp .And (a :: b :: rest) pos) (tAndV ta tb) := by
  intro pins s σ H Q I h
  refine BoolOp_and (thn (ha pins s σ H _ I h) fun v s1 ⟨x, H1, I1, r1, q1⟩ => ?_)
  obtain ⟨c, rfl, q1⟩ := q1
  cases r1
  refine wpAny_truthy_bool ?_
  cases c with
  | true => exact hb pins s1 σ H1 Q I1 q1
  | false => exact ⟨.bl false, H1, I1, rfl, q1⟩
theorem pe_or (ha : PE X a ta) (hb : PE X (.BoolOp .Or (b :: rest) pos) tb) : PE X (.BoolOp .Or (a :: b :: rest) pos) (tOrV ta tb) := by
  intro pins s σ H Q I h
  refine BoolOp_or (thn (ha pins s σ H _ I h) fun v s1 ⟨x, H1, I1, r1, q1⟩ => ?_)
  obtain ⟨c, rfl, q1⟩ := q1
  cases r1
  refine wpAny_truthy_bool ?_
  cases c with
  | false => exact hb pins s1 σ H1 Q I1 q1
  | true => exact ⟨.bl true, H1, I1, rfl, q1⟩
end
end L2
namespace L2
open PySem PySem.Spec PyProof.Rows
def SqL (K : PySem.W.Frag) (H : Hp) (a : Addr) (xs : List V) : Prop :=
  Rd H a (.lst xs) ∨
    ∃ (o : Obj) (its : Array Value) (n : Nat), K.lookup a = some o ∧ o.cls = .type "list" ∧ o.dict = none ∧ o.data = .seq its n ∧ its.size ≤ sizeLine ∧ Vals xs its.toList
def SqT (K : PySem.W.Frag) (H : Hp) (a : Addr) (xs : List V) : Prop :=
  Rd H a (.tup xs) ∨
    ∃ (o : Obj) (its : Array Value) (n : Nat), K.lookup a = some o ∧ o.cls = .type "tuple" ∧ o.data = .seq its n ∧ its.size ≤ sizeLine ∧ Vals xs its.toList
def absV : Value → Option V
  | .none => some .non
  | .bool b => some (.bl b)
  | .int i _ => some (.int i)
  | .str x _ => some (.str x)
  | .bytes b _ => some (.byt b)
  | .float b _ => some (.flt b)
  | .ref a => some (.ref a)
  | .type n => some (.ty n)
  | _ => none
theorem RelV.abs {x : V} {u : Value} (r : RelV x u) : absV u = some x := by
  cases x with
  | non => cases r; rfl
  | bl _ => cases r; rfl
  | int _ => obtain ⟨t, rfl⟩ := r; rfl
  | str _ => obtain ⟨t, rfl⟩ := r; rfl
  | byt _ => obtain ⟨t, rfl⟩ := r; rfl
  | flt _ => obtain ⟨t, rfl⟩ := r; rfl
  | ref _ => cases r; rfl
  | ty _ => cases r; rfl
theorem RelV.inj {x y : V} {u : Value} (r : RelV x u) (q : RelV y u) : x = y := Option.some.inj (r.abs.symm.trans q.abs)
theorem Vals.inj : ∀ {xs ys : List V} {us : List Value}, Vals xs us → Vals ys us → xs = ys
  | _, _, _, .nil, .nil => rfl
  | _, _, _, .cons r t, .cons r' t' => by rw [r.inj r', Vals.inj t t']
section
variable {X : Cx} {pins : List (Addr × Obj)} {σ : St} {H : Hp} {s : Shared} {a : Addr} {xs ys : List V}
theorem SqL.of {K : PySem.W.Frag} (h : H a = some (.lst xs)) : SqL K H a xs := .inl (.inl h)
theorem SqT.of {K : PySem.W.Frag} (h : H a = some (.tup xs)) : SqT K H a xs := .inl (.inl h)
theorem Inv.list (I : Inv X pins σ H s) (h : SqL X.K H a xs) : ∃ its : List Value, Vals xs its ∧ PlainL s.heap a its.toArray ∧ xs.length ≤ sizeLine := by
  rcases h with h | ⟨o, its, n, hk, hc, hd, hs, hz, r⟩
  · obtain ⟨z, its, n, r, e⟩ := h.ok I.hok
    exact ⟨its, r, ⟨_, n, e, rfl, rfl, rfl⟩, z⟩
  · refine ⟨its.toList, r, ⟨o, n, I.kIn a o hk, hc, hd, by simpa using hs⟩, ?_⟩
    have e := r.length
    simp only [Array.length_toList] at e
    omega
theorem Inv.tuple (I : Inv X pins σ H s) (h : SqT X.K H a xs) : ∃ its : List Value, Vals xs its ∧ IsTup s.heap a its.toArray ∧ xs.length ≤ sizeLine := by
  rcases h with h | ⟨o, its, n, hk, hc, hs, hz, r⟩
  · obtain ⟨z, its, r, p⟩ := h.ok I.hok
    exact ⟨its, r, p, z⟩
  · refine ⟨its.toList, r, ⟨o, I.kIn a o hk, hc, n, by simpa using hs⟩, ?_⟩
    have e := r.length
    simp only [Array.length_toList] at e
    omega
theorem Inv.list_inj (I : Inv X pins σ H s) (h : SqL X.K H a xs) (h' : SqL X.K H a ys) : xs = ys := by
  obtain ⟨its, r, ⟨o, n, e, _, _, d⟩, _⟩ := I.list h
  obtain ⟨its', r', ⟨o', n', e', _, _, d'⟩, _⟩ := I.list h'
  rw [e] at e'; cases e'
  rw [d] at d'
  injection d' with d1 _
  have : its = its' := by simpa using congrArg Array.toList d1
  subst this
  exact r.inj r'
theorem Inv.tuple_inj (I : Inv X pins σ H s) (h : SqT X.K H a xs) (h' : SqT X.K H a ys) : xs = ys := by
  obtain ⟨its, r, ⟨o, e, _, n, d⟩, _⟩ := I.tuple h
  obtain ⟨its', r', ⟨o', e', _, n', d'⟩, _⟩ := I.tuple h'
  rw [e] at e'; cases e'
  rw [d] at d'
  injection d' with d1 _
  have : its = its' := by simpa using congrArg Array.toList d1
  subst this
  exact r.inj r'
end
abbrev Cx.wish (X : Cx) (E : Value → Shared → Prop) : Cx := { X with xe := E }
abbrev Cx.nox (X : Cx) : Cx := X.wish fun _ _ => False
theorem Cx.Ok.wish {X : Cx} (ok : X.Ok) (E : Value → Shared → Prop) : (X.wish E).Ok :=
  ⟨ok.mod, ok.kind, ok.glob, ok.blt, ok.above, ok.inj, ok.has, ok.cab, ok.hd, ok.frames, ok.stk, ok.exf, ok.bs, ok.bsz, ok.noex, ok.exfs, ok.funs, ok.frf⟩
theorem Cx.Ok.unwish {X : Cx} {E : Value → Shared → Prop} (ok : (X.wish E).Ok) : X.Ok :=
  ⟨ok.mod, ok.kind, ok.glob, ok.blt, ok.above, ok.inj, ok.has, ok.cab, ok.hd, ok.frames, ok.stk, ok.exf, ok.bs, ok.bsz, ok.noex, ok.exfs, ok.funs, ok.frf⟩
section
variable {X : Cx} {pins : List (Addr × Obj)} {σ : St} {H : Hp} {s : Shared} {E : Value → Shared → Prop}
theorem Inv.wish (I : Inv X pins σ H s) (E : Value → Shared → Prop) : Inv (X.wish E) pins σ H s := ⟨I.ok.wish E, I.os, I.bare, I.base, I.loc, I.cell, I.free, I.freeC, I.pin, I.hok, I.len⟩
theorem Inv.unwish (I : Inv (X.wish E) pins σ H s) : Inv X pins σ H s := ⟨I.ok.unwish, I.os, I.bare, I.base, I.loc, I.cell, I.free, I.freeC, I.pin, I.hok, I.len⟩
theorem SP.unwish {D : Ends} {f : Flow} {s' : Shared} (h : SP (X.wish E) pins D f s') : SP X pins D f s' := by
  cases f with
  | next => obtain ⟨σ', H', I, q⟩ := h; exact ⟨σ', H', I.unwish, q⟩
  | brk => obtain ⟨σ', H', I, q⟩ := h; exact ⟨σ', H', I.unwish, q⟩
  | cont => obtain ⟨σ', H', I, q⟩ := h; exact ⟨σ', H', I.unwish, q⟩
  | ret u => obtain ⟨v, σ', H', I, r, q⟩ := h; exact ⟨v, σ', H', I.unwish, r, q⟩
theorem PSs.nox {st : List Stmt} {t : TS} (h : PSs X.nox st t) : PSs X st t := fun pins s σ H D I hw =>
  wpAny_mono (h pins s σ H D (I.wish _) hw) (fun _ _ q => q.unwish) fun _ _ z => False.elim z
end
section
variable {X : Cx} {st : Stmt} {rest : List Stmt} {t u : TS} {e : Expr} {te : TE} {pos : Pos}
def tNext : TS := fun D σ H => D.nx σ H
def tSeq (t u : TS) : TS := fun D σ H => t { D with nx := u D } σ H
theorem pss_nil : PSs X [] tNext := fun _ _ σ H _ I h => wpAny_execs_nil ⟨σ, H, I, h⟩
theorem pss_cons (h1 : PS X st t) (h2 : PSs X rest u) : PSs X (st :: rest) (tSeq t u) := by
  intro pins s σ H D I h
  refine wpAny_execs_cons (thn (h1 pins s σ H { D with nx := u D } I h) fun f s1 q => ?_)
  cases f with
  | next =>
    obtain ⟨σ', H', I', q⟩ := q
    exact h2 pins s1 σ' H' D I' q
  | ret v => exact q
  | brk => exact q
  | cont => exact q
theorem pss_one (h1 : PS X st t) : PSs X [st] t := by
  intro pins s σ H D I h
  refine wpAny_execs_cons (thn (h1 pins s σ H D I h) fun f s1 q => ?_)
  cases f with
  | next => exact wpAny_execs_nil q
  | ret v => exact q
  | brk => exact q
  | cont => exact q
def tCont : TS := fun D σ H => D.ct σ H
theorem ps_continue : PS X (.Continue pos) tCont := fun _ _ σ H _ I h => wpAny_Continue ⟨σ, H, I, h⟩
theorem Inv.quiet {pins : List (Addr × Obj)} {σ : St} {H : Hp} {s : Shared} (I : Inv X pins σ H s) : interactive X.env = false := by simp [interactive, I.ok.kind]
def tDrop (te : TE) : TS := fun D σ H => te σ H fun _ H1 => D.nx σ H1
theorem ps_expr (he : PE X e te) (hs : swapsWith e none pos.line X.env = pure false := by rfl) : PS X (.Expr e pos) (tDrop te) := by
  intro pins s σ H D I h
  exact wpAny_Expr_any (thn (he pins s σ H _ I h) fun v s1 ⟨x, H1, I1, r1, q1⟩ => ⟨σ, H1, I1, q1⟩) I.quiet hs
def tRet (te : TE) : TS := fun D σ H => te σ H D.rt
theorem ps_ret (he : PE X e te) : PS X (.Return (some e) pos) (tRet te) := by
  intro pins s σ H D I h
  exact wpAny_Return_some (thn (he pins s σ H _ I h) fun v s1 ⟨x, H1, I1, r1, q1⟩ => ⟨x, σ, H1, I1, r1, q1⟩)
def tIfS (c : TT) (t u : TS) : TS := fun D σ H => c σ H fun b H1 => if b = true then t D σ H1 else u D σ H1
theorem ps_if {c : Expr} {a b : List Stmt} {tc : TT} (hc : PT X c tc) (ha : PSs X a t) (hb : PSs X b u) : PS X (.If c a b pos) (tIfS tc t u) := by
  intro pins s σ H D I h
  refine wpAny_If (thn (hc pins s σ H _ I h) fun d s1 ⟨H1, I1, q1⟩ => ?_)
  cases d with
  | true => exact ha pins s1 σ H1 D I1 q1
  | false => exact hb pins s1 σ H1 D I1 q1
end
abbrev TG := V → St → Hp → (St → Hp → Prop) → Prop
abbrev TGs := List V → St → Hp → (St → Hp → Prop) → Prop
def PG (X : Cx) (target : Expr) (t : TG) : Prop :=
  ∀ (pins : List (Addr × Obj)) (s : Shared) (σ : St) (H : Hp) (v : V) (u : Value) (Q : St → Hp → Prop), Inv X pins σ H s → RelV v u → t v σ H Q →
    wpAny (model X.prog X.w) X.A (assign target X.env u) (fun _ s' => ∃ σ' H', Inv X pins σ' H' s' ∧ Q σ' H') X.xe s
def PGs (X : Cx) (ts : List Expr) (t : TGs) : Prop :=
  ∀ (pins : List (Addr × Obj)) (s : Shared) (σ : St) (H : Hp) (vs : List V) (us : List Value) (Q : St → Hp → Prop), Inv X pins σ H s → Vals vs us → t vs σ H Q →
    wpAny (model X.prog X.w) X.A (assignInOrder ((assignEach ts X.env).map (·.2)) us) (fun _ s' => ∃ σ' H', Inv X pins σ' H' s' ∧ Q σ' H') X.xe s
abbrev TSet := V → V → V → Hp → (Hp → Prop) → Prop
def PSet (X : Cx) (t : TSet) : Prop :=
  ∀ (pins : List (Addr × Obj)) (s : Shared) (σ : St) (H : Hp) (o i v : V) (ov iv u : Value) (Q : Hp → Prop), Inv X pins σ H s → RelV o ov → RelV i iv → RelV v u → t o i v H Q →
    wpAny (model X.prog X.w) X.A (setItem ov iv u) (fun _ s' => ∃ H', Inv X pins σ H' s' ∧ Q H') X.xe s
section
variable {X : Cx} {pos : Pos}
def gName (i : Nat) : TG := fun v σ H Q => Q (σ.set i (some v)) H
theorem pg_name {i : Nat} {x : Str} (hN : X.N.Nodup) (hi : X.N[i]? = some x) (hx : Loc X.env.scope x) (hf : X.fn x = true ∨ X.env.scope.names.lookup x = some .local := by first | exact .inl rfl | exact .inr rfl | assumption) : PG X (.Name x pos) (gName i) := by
  intro pins s σ H v u Q I r h
  exact wpAny_assign_Name (store_ok I hN hi hx r (fun s' I' => ⟨_, H, I', h⟩) hf)
def gNil : TGs := fun vs σ H Q => vs = [] ∧ Q σ H
def gCons (t : TG) (u : TGs) : TGs := fun vs σ H Q => ∃ v r, vs = v :: r ∧ t v σ H fun σ' H' => u r σ' H' Q
theorem pgs_nil : PGs X [] gNil := by
  intro pins s σ H vs us Q I r h
  obtain ⟨e, h⟩ := h
  subst e
  cases r
  exact assignInOrder_nil ⟨σ, H, I, h⟩
theorem pgs_cons {e : Expr} {es : List Expr} {t : TG} {u : TGs} (h1 : PG X e t) (h2 : PGs X es u)
    (hs : (assignEach (e :: es) X.env).map (·.2) = assign e X.env :: (assignEach es X.env).map (·.2) := by rfl) : PGs X (e :: es) (gCons t u) := by
  intro pins s σ H vs us Q I r h
  obtain ⟨v, vr, e1, h⟩ := h
  subst e1
  cases r with
  | cons r rr =>
    rw [hs]
    refine assignInOrder_cons (thn (h1 pins s σ H _ _ _ I r h) fun _ s1 ⟨σ1, H1, I1, q1⟩ => ?_)
    exact h2 pins s1 σ1 H1 _ _ Q I1 rr q1
def gTup (K : PySem.W.Frag) (n : Nat) (t : TGs) : TG := fun v σ H Q => ∃ a xs, v = .ref a ∧ SqT K H a xs ∧ xs.length = n ∧ t xs σ H Q
theorem pg_tup {es : List Expr} {k : Nat} {t : TGs} {n : Nat} (hc : X.calm = true) (h : PGs X es t)
    (hn : (assignEach es X.env).length = n := by rfl) (hst : (assignEach es X.env).findIdx? (·.1) = none := by rfl) : PG X (.Tuple es k pos) (gTup X.K n t) := by
  intro pins s σ H v u Q I r hw
  obtain ⟨a, xs, e1, hq, hl, hw⟩ := hw
  subst e1
  cases r
  obtain ⟨its, rv, ht, hz⟩ := I.tuple hq
  refine assignH (I.hb hc) (show s.heap.IsTuple a its.toArray from ht) (by simp [hn, ← hl, rv.length]) hst fun h' hx => ?_
  have I1 : Inv X pins σ H { s with heap := h' } := I.kept (t' := s.toks) fun b o e => hx b o (Nat.ne_of_lt (Heap.lt_size e)) e
  exact h pins _ σ H xs _ Q I1 (by simpa using rv) hw
def gSub (to ti : TE) (t : TSet) : TG := fun v σ H Q => to σ H fun o H1 => ti σ H1 fun i H2 => t o i v H2 fun H3 => Q σ H3
theorem pg_sub {o i : Expr} {to ti : TE} {t : TSet} (ho : PE X o to) (hi : PE X i ti) (hs : PSet X t)
    (ha : ∀ v, assign (.Subscript o i pos) X.env v = (do
      let ov ← holding [v] (eval o X.env)
      let iv ← holding [v, ov] (eval i X.env)
      standAt pos
      holding [v, ov, iv] (setItem ov iv v)
      release [v, ov, iv] []) := by intro _; rfl) : PG X (.Subscript o i pos) (gSub to ti t) := by
  intro pins s σ H v u Q I r h
  rw [ha]
  refine wpAny_bind (wpAny_holding (thn (ho pins s σ H _ I h) fun ov s1 ⟨x, H1, I1, r1, q1⟩ => ?_))
  refine wpAny_bind (wpAny_holding (thn (hi pins s1 σ H1 _ I1 q1) fun iv s2 ⟨y, H2, I2, r2, q2⟩ => ?_))
  refine wpAny_bind (wpAny_standAt (wpAny_bind (wpAny_holding (thn (hs pins s2 σ H2 x y v ov iv u _ I2 r1 r2 r q2) fun _ s3 ⟨H3, I3, q3⟩ => ?_))))
  exact wpAny_release ⟨σ, H3, I3, q3⟩
def tAsg (te : TE) (g : TG) : TS := fun D σ H => te σ H fun x H1 => g x σ H1 D.nx
theorem ps_asg {tg e : Expr} {te : TE} {g : TG} (he : PE X e te) (hg : PG X tg g) (hs : swapsWithSole [tg] e pos.line X.env = pure false := by rfl) (hw : swappedStores [tg] e X.env = pure none := by rfl)
    (h1 : (assignEach [tg] X.env).map (·.2) = [assign tg X.env] := by rfl) : PS X (.Assign [tg] e pos) (tAsg te g) := by
  intro pins s σ H D I h
  refine wpAny_Assign_stores (thn (he pins s σ H _ I h) fun v s1 ⟨x, H1, I1, r1, q1⟩ => ?_) hs hw
  rw [h1]
  exact thn (hg pins s1 σ H1 x v _ I1 r1 q1) fun _ s2 q => q
theorem ps_set {i : Nat} {x : Str} {e : Expr} {te : TE} {pos' : Pos} (hN : X.N.Nodup) (hi : X.N[i]? = some x) (hx : Loc X.env.scope x) (he : PE X e te) (hs : swapsWith e (some (.Name x pos')) pos.line X.env = pure false := by rfl) (hf : X.fn x = true ∨ X.env.scope.names.lookup x = some .local := by first | exact .inl rfl | exact .inr rfl | assumption) :
    PS X (.Assign [.Name x pos'] e pos) (tAsg te (gName i)) := by
  intro pins s σ H D I h
  refine wpAny_Assign_Name (thn (he pins s σ H _ I h) fun v s1 ⟨y, H1, I1, r1, q1⟩ => ?_) hs
  exact store_ok I1 hN hi hx r1 (fun s2 I2 => ⟨_, H1, I2, q1⟩) hf
end
section
variable {X : Cx} {pos : Pos}
def tWhile (c : TT) (tb : TS) : TS := fun D σ H => ∃ W : Nat → St → Hp → Prop, (∃ m, W m σ H) ∧ ∀ m σ H, W m σ H →
  c σ H fun b H1 => if b = true then ∃ N : St → Hp → Prop, (∀ σ' H', N σ' H' → ∃ m', m' < m ∧ W m' σ' H') ∧ tb { D with nx := N, ct := N, bk := D.nx } σ H1 else D.nx σ H1
theorem ps_while {c : Expr} {body : List Stmt} {tc : TT} {tb : TS} (hp : PassesOwn (model X.prog X.w) X.A X.env X.xe) (hc : PT X c tc) (hb : PSs X body tb) : PS X (.While c body [] pos) (tWhile tc tb) := by
  intro pins s σ H D I h
  obtain ⟨W, ⟨m0, w0⟩, turn⟩ := h
  refine wpAny_While (codeAny_whileLoop (fun n s' => ∃ σ' H', Inv X pins σ' H' s' ∧ W n σ' H') ?_ m0 ⟨σ, H, I, w0⟩)
  rintro n s1 ⟨σ1, H1, I1, w1⟩
  refine wpAny_passesOwn hp (thn (hc pins s1 σ1 H1 _ I1 (turn n σ1 H1 w1)) fun b s2 ⟨H2, I2, q2⟩ => ?_)
  cases b with
  | true =>
    obtain ⟨N, hN, q2⟩ := q2
    rw [if_pos rfl]
    refine wpAny_passesOwn hp (thn (hb pins s2 σ1 H2 _ I2 q2) fun f s3 q3 => ?_)
    cases f with
    | next =>
      obtain ⟨σ3, H3, I3, n3⟩ := q3
      obtain ⟨m', hm, w3⟩ := hN σ3 H3 n3
      exact ⟨m', hm, σ3, H3, I3, w3⟩
    | cont =>
      obtain ⟨σ3, H3, I3, n3⟩ := q3
      obtain ⟨m', hm, w3⟩ := hN σ3 H3 n3
      exact ⟨m', hm, σ3, H3, I3, w3⟩
    | brk => exact q3
    | ret v => exact q3
  | false =>
    rw [if_neg Bool.false_ne_true]
    exact wpAny_execs_nil ⟨σ1, H2, I2, q2⟩
end
structure It where
  go : Nat → Hp → Prop
  yld : Nat → Hp → V → Hp → Prop
  stop : Nat → Hp → Prop
def FpOk (X : Cx) (pins : List (Addr × Obj)) (H : Hp) (b : Addr) : Prop :=
  H b = none ∧ b ≠ X.env.locals ∧ b ∉ X.fs ∧ (b ∈ X.ex ∨ X.s₀.heap.objs.size ≤ b) ∧ (∀ x c, X.env.cells.lookup x = some c → c ≠ b) ∧ ∀ p ∈ X.pn ++ pins, p.1 ≠ b
theorem Inv.fpOk {X : Cx} {pins : List (Addr × Obj)} {σ : St} {H H' : Hp} {s : Shared} {b : Addr} (I : Inv X pins σ H s) (hb : s.heap.objs.size ≤ b) (hn : H' b = none) : FpOk X pins H' b := by
  refine ⟨hn, Nat.ne_of_gt (Nat.lt_of_lt_of_le I.lt hb), I.nofs hb, .inr (Nat.le_trans I.sz hb), fun x c e z => ?_, fun p hp z => ?_⟩
  · obtain ⟨v, q⟩ := I.cell x c e
    exact absurd (Nat.lt_of_lt_of_le q.lt (by rw [z]; exact hb)) (Nat.lt_irrefl _)
  · exact absurd (Nat.lt_of_lt_of_le (Heap.lt_size (I.pin p hp).1) (by rw [z]; exact hb)) (Nat.lt_irrefl _)
structure Turn (P : Program) (w : World) (K : PySem.W.Frag) (tg : Expr) (J : It) (fp : List Addr) (it : Addr) (tn : Nat → Heap → Prop) : Prop where
  mem : it ∈ fp
  obj : ∀ i h, tn i h → ∀ b ∈ fp, ∃ o, h.get? b = some o ∧ ∀ v, o.data ≠ .cell v
  keep : ∀ i h h', tn i h → (∀ b ∈ fp, ∀ o, h.get? b = some o → h'.get? b = some o) → tn i h'
  item : ∀ (X : Cx), X.prog = P → X.w = w → X.K = K → X.calm = true → ∀ (i : Nat) (pins : List (Addr × Obj)) (s : Shared) (σ : St) (H : Hp) (E : Value → Shared → Prop), Inv X pins σ H s → (∀ b ∈ fp, FpOk X pins H b) → tn i s.heap → J.go i H →
    wpAny (model P w) X.A (pyNext (.ref it)) (fun r s1 => ∃ u, r = some u ∧
      wpAny (model P w) X.A (letOwnedTupleGo tg (.ref it) u) (fun _ s2 => ∃ x H', Inv X pins σ H' s2 ∧ RelV x u ∧ J.yld i H x H' ∧ tn (i + 1) s2.heap ∧ ∀ b ∈ fp, H' b = none) E s1) E s
  done : ∀ (X : Cx), X.prog = P → X.w = w → X.K = K → X.calm = true → ∀ (i : Nat) (pins : List (Addr × Obj)) (s : Shared) (σ : St) (H : Hp) (E : Value → Shared → Prop), Inv X pins σ H s → (∀ b ∈ fp, FpOk X pins H b) → tn i s.heap → J.stop i H →
    wpAny (model P w) X.A (pyNext (.ref it)) (fun r s1 => r = none ∧ Inv X pins σ H s1) E s
  self : ∀ (A : Around) (i : Nat) (s : Shared) (Q : Value → Shared → Prop) (E : Value → Shared → Prop), tn i s.heap → Q (.ref it) s → wpAny (model P w) A (pyIter (.ref it)) Q E s
abbrev TI := St → Hp → (It → Hp → Prop) → Prop
def PIE (X : Cx) (pins : List (Addr × Obj)) (σ : St) (tg : Expr) (R : It → Hp → Prop) (itv : Value) (s2 : Shared) : Prop :=
  ∃ (it : Addr) (fp : List Addr) (tn : Nat → Heap → Prop) (J : It) (H' : Hp), itv = .ref it ∧ Inv X pins σ H' s2 ∧ Turn X.prog X.w X.K tg J fp it tn ∧ tn 0 s2.heap ∧ (∀ b ∈ fp, FpOk X pins H' b) ∧ R J H'
def PI (X : Cx) (tg iter : Expr) (wi : TI) : Prop :=
  ∀ (pins : List (Addr × Obj)) (s : Shared) (σ : St) (H : Hp) (R : It → Hp → Prop), Inv X pins σ H s → wi σ H R →
    wpAny (model X.prog X.w) X.A (eval iter X.env) (fun v s1 => wpAny (model X.prog X.w) X.A (pyIter v) (PIE X pins σ tg R) X.xe s1) X.xe s
theorem go_of {M : Model} {A : Around} {E : Value → Shared → Prop} {s : Shared} {tg : Expr} {it : Addr} {u : Value} {o : Obj} {n : String} {vs : Array Value} {Q : Unit → Shared → Prop} (ho : s.heap.get? it = some o) (hc : o.cls = .type n) (hd : o.data = .fields vs)
    (hn : ["enumerate", "zip", "dict_itemiterator", "dict_reverseitemiterator", "odict_iterator", "itertools.zip_longest", "itertools.pairwise"].contains n = false) (hQ : Q () s) : wpAny M A (letOwnedTupleGo tg (.ref it) u) Q E s := by
  unfold letOwnedTupleGo
  cases tg <;> first
    | exact wpAny_pure hQ
    | (cases u <;> first
        | exact wpAny_pure hQ
        | (refine wpAny_bind (wpAny_load ho ?_)
           rw [hc, hd]
           show wpAny M A (if (["enumerate", "zip", "dict_itemiterator", "dict_reverseitemiterator", "odict_iterator", "itertools.zip_longest", "itertools.pairwise"].contains n && vs[0]? == some (rawInt _)) = true then _ else _) Q E s
           rw [if_neg (by intro h; rw [hn, Bool.false_and] at h; cases h)]
           exact wpAny_pure hQ))
def Itl (K : PySem.W.Frag) (a : Addr) : It :=
  ⟨fun i H => ∃ xs x, SqL K H a xs ∧ xs[i]? = some x, fun i H x H' => H' = H ∧ ∀ xs, SqL K H a xs → xs[i]? = some x, fun i H => ∃ xs, SqL K H a xs ∧ xs.length ≤ i⟩
def Itt (K : PySem.W.Frag) (a : Addr) : It :=
  ⟨fun i H => ∃ xs x, SqT K H a xs ∧ xs[i]? = some x, fun i H x H' => H' = H ∧ ∀ xs, SqT K H a xs → xs[i]? = some x, fun i H => ∃ xs, SqT K H a xs ∧ xs.length ≤ i⟩
def Itr (lo : Int) (n : Nat) : It := ⟨fun i _ => i < n, fun i H x H' => H' = H ∧ x = .int (lo + i), fun i _ => n ≤ i⟩
theorem turn_list {P : Program} {w : World} {K : PySem.W.Frag} {tg : Expr} (a it : Addr) : Turn P w K tg (Itl K a) [it] it (fun i h => h.IsListIter it a i) where
  mem := by simp
  obj := fun i h st b hb => by
    have e : b = it := by simpa using hb
    subst e
    obtain ⟨o, e, c, d⟩ := st
    exact ⟨o, e, fun v z => by rw [d] at z; cases z⟩
  keep := fun i h h' st k => st.at fun o e => k it (by simp) o e
  item := by
    intro X hP hw hK hc i pins s σ H E I hf st hg
    subst hP hw hK
    obtain ⟨xs, x, hq, hx⟩ := hg
    obtain ⟨its, rv, p, hz⟩ := I.list hq
    obtain ⟨u, hu, ru⟩ := rv.get hx
    obtain ⟨f0, f1, f2, f3, f4, f5⟩ := hf it (by simp)
    refine wpAny_pyNext_list_item st p.isList (x := u) (by simpa using hu) fun h' st' sb => ?_
    have I1 : Inv X pins σ H { s with heap := h' } := I.turned (t' := s.toks) (fun b o hb e => (sb.2 b hb).trans e) f0 f1 f3 f4 f5
    obtain ⟨o, e, c, d⟩ := id st'
    exact ⟨u, rfl, go_of (s := { s with heap := h' }) e c d (by decide) ⟨x, H, I1, ru, ⟨rfl, fun ys hy => by rw [I.list_inj hy hq]; exact hx⟩, st', fun b hb => (hf b hb).1⟩⟩
  done := by
    intro X hP hw hK hc i pins s σ H E I hf st hg
    subst hP hw hK
    obtain ⟨xs, hq, hx⟩ := hg
    obtain ⟨its, rv, p, hz⟩ := I.list hq
    obtain ⟨f0, f1, f2, f3, f4, f5⟩ := hf it (by simp)
    have hl := rv.length
    exact next_list_end (I.hb hc) (I.hna hc f3 f5) st p.isList (by simp; omega) fun h' eb => ⟨rfl, I.turned (t' := s.toks) (fun b o hb e => eb b o hb e) f0 f1 f3 f4 f5⟩
  self := fun _ _ _ _ _ st h => wpAny_pyIter_listiter st h
theorem turn_tuple {P : Program} {w : World} {K : PySem.W.Frag} {tg : Expr} (a it : Addr) : Turn P w K tg (Itt K a) [it] it (fun i h => h.IsTupleIter it a i) where
  mem := by simp
  obj := fun i h st b hb => by
    have e : b = it := by simpa using hb
    subst e
    obtain ⟨o, e, c, d⟩ := st
    exact ⟨o, e, fun v z => by rw [d] at z; cases z⟩
  keep := fun i h h' st k => st.at fun o e => k it (by simp) o e
  item := by
    intro X hP hw hK hc i pins s σ H E I hf st hg
    subst hP hw hK
    obtain ⟨xs, x, hq, hx⟩ := hg
    obtain ⟨its, rv, p, hz⟩ := I.tuple hq
    obtain ⟨u, hu, ru⟩ := rv.get hx
    obtain ⟨f0, f1, f2, f3, f4, f5⟩ := hf it (by simp)
    refine wpAny_pyNext_tuple_item st (show s.heap.IsTuple a its.toArray from p) (x := u) (by simpa using hu) fun h' st' sb => ?_
    have I1 : Inv X pins σ H { s with heap := h' } := I.turned (t' := s.toks) (fun b o hb e => (sb.2 b hb).trans e) f0 f1 f3 f4 f5
    obtain ⟨o, e, c, d⟩ := id st'
    exact ⟨u, rfl, go_of (s := { s with heap := h' }) e c d (by decide) ⟨x, H, I1, ru, ⟨rfl, fun ys hy => by rw [I.tuple_inj hy hq]; exact hx⟩, st', fun b hb => (hf b hb).1⟩⟩
  done := by
    intro X hP hw hK hc i pins s σ H E I hf st hg
    subst hP hw hK
    obtain ⟨xs, hq, hx⟩ := hg
    obtain ⟨its, rv, p, hz⟩ := I.tuple hq
    obtain ⟨f0, f1, f2, f3, f4, f5⟩ := hf it (by simp)
    have hl := rv.length
    exact next_tuple_end (I.hb hc) (I.hna hc f3 f5) st (show s.heap.IsTuple a its.toArray from p) (by simp; omega) fun h' eb => ⟨rfl, I.turned (t' := s.toks) (fun b o hb e => eb b o hb e) f0 f1 f3 f4 f5⟩
  self := fun _ _ _ _ _ st h => wpAny_pyIter_tupleiter st h
theorem turn_range {P : Program} {w : World} {K : PySem.W.Frag} {tg : Expr} (it : Addr) (lo : Int) (n : Nat) : Turn P w K tg (Itr lo n) [it] it (fun i h => IsRangeIter h it (lo + (i : Nat) * 1) ((n : Int) - (i : Nat)) 1) where
  mem := by simp
  obj := fun i h st b hb => by
    have e : b = it := by simpa using hb
    subst e
    exact ⟨_, st, fun v z => by
      have z' : Data.fields _ = Data.cell v := z
      cases z'⟩
  keep := fun i h h' st k => k it (by simp) _ st
  item := by
    intro X hP hw hK hc i pins s σ H E I hf st hg
    subst hP hw hK
    obtain ⟨f0, f1, f2, f3, f4, f5⟩ := hf it (by simp)
    refine range_item hg st fun v h' tk hv st' kk => ?_
    obtain ⟨t, rfl⟩ := hv
    have I1 : Inv X pins σ H { s with heap := h', toks := tk } := I.turned (fun b o hb e => kk b o (by simpa using hb) e) f0 f1 f3 f4 f5
    refine ⟨_, rfl, go_of (s := { s with heap := h', toks := tk }) (n := "range_iterator") st' rfl rfl (by decide) ⟨.int (lo + i), H, I1, ⟨t, ?_⟩, ⟨rfl, rfl⟩, st', fun b hb => (hf b hb).1⟩⟩
    rw [Int.mul_one]
  done := by
    intro X hP hw hK hc i pins s σ H E I hf st hg
    subst hP hw hK
    obtain ⟨f0, f1, f2, f3, f4, f5⟩ := hf it (by simp)
    exact next_range_end (I.hb hc) st (by have : n ≤ i := hg; omega) fun h' eb => ⟨rfl, I.turned (t' := s.toks) (fun b o hb e => eb b o hb e) f0 f1 f3 f4 f5⟩
  self := fun _ _ _ _ _ st h => wpAny_pyIter_rangeiter st h
end L2
namespace L2
open PySem PySem.Spec PyProof.Rows
section
variable {X : Cx} {tg : Expr}
def iList (K : PySem.W.Frag) (tl : TE) : TI := fun σ H R => tl σ H fun x H1 => ∃ a, x = .ref a ∧ (∃ xs, SqL K H1 a xs) ∧ R (Itl K a) H1
def iTup (K : PySem.W.Frag) (tl : TE) : TI := fun σ H R => tl σ H fun x H1 => ∃ a, x = .ref a ∧ (∃ xs, SqT K H1 a xs) ∧ R (Itt K a) H1
theorem pi_list {l : Expr} {tl : TE} (hl : PE X l tl) : PI X tg l (iList X.K tl) := by
  intro pins s σ H R I h
  refine thn (hl pins s σ H _ I h) fun v s1 ⟨x, H1, I1, r1, q1⟩ => ?_
  obtain ⟨a, e, ⟨xs, hq⟩, q⟩ := q1
  subst e
  cases r1
  obtain ⟨its, rv, p, hz⟩ := I1.list hq
  refine wpAny_pyIter_list p.isList ?_
  refine ⟨s1.heap.objs.size, [s1.heap.objs.size], _, _, H1, rfl, I1.kept (t' := s1.toks) fun b o e => Heap.get?_push_of_some _ e, turn_list a _, ⟨_, Heap.get?_push_size _ rfl, rfl, rfl⟩, fun b hb => ?_, q⟩
  have e : b = s1.heap.objs.size := by simpa using hb
  subst e
  exact I1.fpOk (Nat.le_refl _) (I1.hok.fresh (Nat.le_refl _))
theorem pi_tup {l : Expr} {tl : TE} (hl : PE X l tl) : PI X tg l (iTup X.K tl) := by
  intro pins s σ H R I h
  refine thn (hl pins s σ H _ I h) fun v s1 ⟨x, H1, I1, r1, q1⟩ => ?_
  obtain ⟨a, e, ⟨xs, hq⟩, q⟩ := q1
  subst e
  cases r1
  obtain ⟨its, rv, p, hz⟩ := I1.tuple hq
  refine wpAny_pyIter_tuple (show s1.heap.IsTuple a its.toArray from p) ?_
  refine ⟨s1.heap.objs.size, [s1.heap.objs.size], _, _, H1, rfl, I1.kept (t' := s1.toks) fun b o e => Heap.get?_push_of_some _ e, turn_tuple a _, ⟨_, Heap.get?_push_size _ rfl, rfl, rfl⟩, fun b hb => ?_, q⟩
  have e : b = s1.heap.objs.size := by simpa using hb
  subst e
  exact I1.fpOk (Nat.le_refl _) (I1.hok.fresh (Nat.le_refl _))
theorem range_it {pins : List (Addr × Obj)} {σ : St} {H : Hp} {s : Shared} {R : It → Hp → Prop} {E : Value → Shared → Prop} {lo hi : Int} {t u v : Tok} {tk : Nat} (I : Inv X pins σ H s) (h1 : -(2 ^ 62) ≤ lo) (h2 : lo < 2 ^ 62) (h3 : -(2 ^ 62) ≤ hi) (h4 : hi < 2 ^ 62)
    (q : R (Itr lo (hi - lo).toNat) H) : wpAny (model X.prog X.w) X.A (pyIter (.ref s.heap.objs.size)) (PIE X pins σ tg R) E { s with heap := s.heap.push { cls := .type "range", data := .fields #[.int lo t, .int hi u, .int 1 v] }, toks := tk } := by
  refine wpAny_pyIter_range (IsRange.new ..) (small_one h1 h2 h3 h4) ?_
  have I1 : Inv X pins σ H { s with heap := s.heap.push { cls := .type "range", data := .fields #[.int lo t, .int hi u, .int 1 v] }, toks := tk } := I.kept fun b o e => Heap.get?_push_of_some _ e
  refine ⟨(s.heap.push { cls := .type "range", data := .fields #[.int lo t, .int hi u, .int 1 v] }).objs.size, [(s.heap.push { cls := .type "range", data := .fields #[.int lo t, .int hi u, .int 1 v] }).objs.size], _, _, H, rfl,
    I1.kept (t' := tk) fun b o e => Heap.get?_push_of_some _ e, turn_range _ lo (hi - lo).toNat, ?_, fun b hb => ?_, q⟩
  · have e1 : lo + ((0 : Nat) : Int) * 1 = lo := by simp
    have e2 : (((hi - lo).toNat : Nat) : Int) - ((0 : Nat) : Int) = Builtin.Range.rangeSize lo hi 1 := by rw [rangeSize_one]; split <;> omega
    show IsRangeIter _ _ (lo + ((0 : Nat) : Int) * 1) ((((hi - lo).toNat : Nat) : Int) - ((0 : Nat) : Int)) 1
    rw [e1, e2]
    exact Heap.get?_push_size _ rfl
  · have e : b = (s.heap.push { cls := .type "range", data := .fields #[.int lo t, .int hi u, .int 1 v] }).objs.size := by simpa using hb
    subst e
    exact I1.fpOk (Nat.le_refl _) (I1.hok.fresh (Nat.le_refl _))
def iRng1 (ta : TA) : TI := fun σ H R => ta σ H fun vs H1 => ∃ j : Int, vs = [.int j] ∧ -(2 ^ 62) ≤ j ∧ j < 2 ^ 62 ∧ R (Itr 0 j.toNat) H1
theorem pi_range1 {a : Expr} {ta : TA} {p pos : Pos} (hg : Gl X "range") (hm : X.mg "range" = none) (ha : PA X [a] ta) (hs : starEach [a] X.env = [(false, eval a X.env)] := by rfl) : PI X tg (.Call (.Name "range" p) [a] [] pos) (iRng1 ta) := by
  intro pins s σ H R I h
  refine Call_ (ld_blt I hg hm boot_range (PyProof.Rows.callWith_type1 (thn (ha pos pins s σ H _ I h) fun us s1 ⟨vs, H1, I1, r1, q1⟩ => ?_) hs rfl))
  obtain ⟨j, e, q1, q2, q⟩ := q1
  subst e
  cases r1 with
  | cons r rr =>
    cases rr
    obtain ⟨t, rfl⟩ := r
    exact call_range_1 (range_it I1 (by omega) (by omega) q1 q2 (by simpa using q))
def tFor (wi : TI) (g : TG) (tb : TS) : TS := fun D σ H => wi σ H fun J H1 => ∃ W : Nat → Nat → St → Hp → Prop, (∃ m, W 0 m σ H1) ∧ ∀ i m σ H, W i m σ H →
  (J.stop i H ∧ D.nx σ H) ∨ (J.go i H ∧ ∃ N : St → Hp → Prop, (∀ σ' H', N σ' H' → ∃ m', m' < m ∧ W (i + 1) m' σ' H') ∧ ∀ x H', J.yld i H x H' → g x σ H' fun σ2 H2 => tb { D with nx := N, ct := N, bk := D.nx } σ2 H2)
def pinsAt (fp : List Addr) (h : Heap) : List (Addr × Obj) := fp.filterMap fun b => (h.get? b).map fun o => (b, o)
theorem mem_pinsAt {fp : List Addr} {h : Heap} {b : Addr} {o : Obj} (hb : b ∈ fp) (e : h.get? b = some o) : (b, o) ∈ pinsAt fp h := List.mem_filterMap.mpr ⟨b, hb, by rw [e]; rfl⟩
theorem of_pinsAt {fp : List Addr} {h : Heap} {p : Addr × Obj} (hp : p ∈ pinsAt fp h) : p.1 ∈ fp ∧ h.get? p.1 = some p.2 := by
  obtain ⟨b, hb, e⟩ := List.mem_filterMap.mp hp
  cases q : h.get? b with
  | none => rw [q] at e; cases e
  | some o =>
    rw [q] at e
    have e' : (b, o) = p := Option.some.inj e
    subst e'
    exact ⟨hb, q⟩
theorem Inv.pinned {pins : List (Addr × Obj)} {σ : St} {H : Hp} {s : Shared} {fp : List Addr} (I : Inv X pins σ H s) (hf : ∀ b ∈ fp, FpOk X pins H b) (ho : ∀ b ∈ fp, ∃ o, s.heap.get? b = some o ∧ ∀ v, o.data ≠ .cell v) : Inv X (pins ++ pinsAt fp s.heap) σ H s :=
  I.pins_of fun p hp => (List.mem_append.mp hp).elim (fun z => I.pin p (List.mem_append_right _ z)) fun z => by
    obtain ⟨hb, e⟩ := of_pinsAt z
    obtain ⟨f0, f1, f2, _⟩ := hf p.1 hb
    obtain ⟨o, e', d⟩ := ho p.1 hb
    rw [e] at e'; cases e'
    exact ⟨e, f0, f1, f2, d⟩
theorem Inv.unpinned {pins pl : List (Addr × Obj)} {σ : St} {H : Hp} {s : Shared} (I : Inv X (pins ++ pl) σ H s) : Inv X pins σ H s := I.pins_of fun p hp => I.pin p (List.mem_append_right _ (List.mem_append_left _ hp))
theorem ps_for {iter : Expr} {body : List Stmt} {wi : TI} {g : TG} {tb : TS} {pos : Pos} (hp : PassesOwn (model X.prog X.w) X.A X.env X.xe) (hc : X.calm = true) (hi : PI X tg iter wi) (hg : PG X tg g) (hb : PSs X body tb)
    (hs : ∀ x, foldedSetIterable iter X.env x = pure x := by intro _; rfl) : PS X (.For tg iter body [] pos) (tFor wi g tb) := by
  intro pins s σ H D I h
  refine wpAny_For (thn (hi pins s σ H _ I h) fun v s1 h1 => thn h1 fun itv s2 h2 => ?_) hs
  obtain ⟨it, fp, tn, J, H2, e, I2, T, st2, f2, W, ⟨m0, w0⟩, turn⟩ := h2
  subst e
  -- what stays true of the iterator's objects through the loop
  have stat : ∀ {H' : Hp}, (∀ b ∈ fp, H' b = none) → ∀ b ∈ fp, FpOk X pins H' b := fun hn b hb => ⟨hn b hb, (f2 b hb).2⟩
  refine codeAny_forLoop_any (fun n s' => ∃ i σ' H', Inv X pins σ' H' s' ∧ tn i s'.heap ∧ (∀ b ∈ fp, H' b = none) ∧ W i n σ' H') ?_ m0 ⟨0, σ, H2, I2, st2, fun b hb => (f2 b hb).1, w0⟩
  rintro n s3 ⟨i, σ3, H3, I3, st3, fr3, w3⟩
  rcases turn i n σ3 H3 w3 with ⟨stop, qn⟩ | ⟨go, N, hN, step⟩
  · refine wpAny_passesOwn hp (thn (T.done X rfl rfl rfl hc i pins s3 σ3 H3 X.xe I3 (stat fr3) st3 stop) fun r s4 ⟨hr, I4⟩ => ?_)
    subst hr
    exact wpAny_execs_nil ⟨σ3, H3, I4, qn⟩
  · refine wpAny_passesOwn hp (thn (T.item X rfl rfl rfl hc i pins s3 σ3 H3 X.xe I3 (stat fr3) st3 go) fun r s4 ⟨u, hr, h4⟩ => ?_)
    subst hr
    refine wpAny_passesOwn hp (thn h4 fun _ s5 ⟨x, H5, I5, r5, y5, st5, fr5⟩ => ?_)
    have I5' := I5.pinned (stat fr5) (T.obj _ _ st5)
    refine wpAny_passesOwn hp (thn (hg _ s5 σ3 H5 x u _ I5' r5 (step x H5 y5)) fun _ s6 ⟨σ6, H6, I6, q6⟩ => ?_)
    refine wpAny_passesOwn hp (thn (hb _ s6 σ6 H6 _ I6 q6) fun f s7 q7 => ?_)
    have again : ∀ {σ7 : St} {H7 : Hp}, Inv X (pins ++ pinsAt fp s5.heap) σ7 H7 s7 → N σ7 H7 → ∃ m, m < n ∧ ∃ i σ' H', Inv X pins σ' H' s7 ∧ tn i s7.heap ∧ (∀ b ∈ fp, H' b = none) ∧ W i m σ' H' := fun {σ7 H7} I7 n7 => by
      obtain ⟨m', hm, w7⟩ := hN σ7 H7 n7
      refine ⟨m', hm, i + 1, σ7, H7, I7.unpinned, T.keep _ _ _ st5 fun b hb o e => (I7.pin (b, o) (List.mem_append_right _ (List.mem_append_right _ (mem_pinsAt hb e)))).1, fun b hb => ?_, w7⟩
      obtain ⟨o, e, d⟩ := T.obj _ _ st5 b hb
      exact (I7.pin (b, o) (List.mem_append_right _ (List.mem_append_right _ (mem_pinsAt hb e)))).2.1
    cases f with
    | next => obtain ⟨σ7, H7, I7, n7⟩ := q7; exact again I7 n7
    | cont => obtain ⟨σ7, H7, I7, n7⟩ := q7; exact again I7 n7
    | brk => obtain ⟨σ7, H7, I7, q7⟩ := q7; exact ⟨σ7, H7, I7.unpinned, q7⟩
    | ret v => obtain ⟨x7, σ7, H7, I7, r7, q7⟩ := q7; exact ⟨x7, σ7, H7, I7.unpinned, r7, q7⟩
end
end L2
namespace L2
open PySem PySem.Spec PyProof.Rows
abbrev R2 := V → V → Hp → VK → Prop
def OpR (X : Cx) (f : Value → Value → Sem Value) (r : R2) : Prop :=
  ∀ (pins : List (Addr × Obj)) (s : Shared) (σ : St) (H : Hp) (x y : V) (v u : Value) (Q : VK), Inv X pins σ H s → RelV x v → RelV y u → r x y H Q →
    wpAny (model X.prog X.w) X.A (f v u) (EP X pins σ Q) X.xe s
def UnR (X : Cx) (f : Value → Sem Value) (r : V → Hp → VK → Prop) : Prop :=
  ∀ (pins : List (Addr × Obj)) (s : Shared) (σ : St) (H : Hp) (x : V) (v : Value) (Q : VK), Inv X pins σ H s → RelV x v → r x H Q →
    wpAny (model X.prog X.w) X.A (f v) (EP X pins σ Q) X.xe s
def CallR (X : Cx) (f : Value) (r : List V → Hp → VK → Prop) : Prop :=
  ∀ (pins : List (Addr × Obj)) (s : Shared) (σ : St) (H : Hp) (xs : List V) (us : List Value) (Q : VK), Inv X pins σ H s → Vals xs us → r xs H Q →
    wpAny (model X.prog X.w) X.A (call f us) (EP X pins σ Q) X.xe s
def tOp (r : R2) (ta tb : TE) : TE := fun σ H Q => ta σ H fun x H1 => tb σ H1 fun y H2 => r x y H2 Q
def tUn (r : V → Hp → VK → Prop) (ta : TE) : TE := fun σ H Q => ta σ H fun x H1 => r x H1 Q
def rI (C : Int → Int → Prop) (g : Int → Int → V) : R2 := fun x y H Q => ∃ i j, x = .int i ∧ y = .int j ∧ C i j ∧ Q (g i j) H
def rI0 (g : Int → Int → V) : R2 := fun x y H Q => ∃ i j, x = .int i ∧ y = .int j ∧ Q (g i j) H
def rU (g : Int → V) : V → Hp → VK → Prop := fun x H Q => ∃ i, x = .int i ∧ Q (g i) H
section
variable {X : Cx} {a b c : Expr} {ta tb tc : TE} {pos : Pos}
theorem binT (ha : PE X a ta) (hb : PE X b tb) {pins : List (Addr × Obj)} {s : Shared} {σ : St} {H : Hp} {R : V → V → Hp → Prop} (I : Inv X pins σ H s)
    (h : ta σ H fun x H1 => tb σ H1 fun y H2 => R x y H2) {Q : Value → Shared → Prop} {f : Value → Value → Sem Value}
    (hf : ∀ v u s2 x y H2, Inv X pins σ H2 s2 → RelV x v → RelV y u → R x y H2 → wpAny (model X.prog X.w) X.A (f v u) Q X.xe s2) :
    wpAny (model X.prog X.w) X.A (eval a X.env) (fun v s₁ => wpAny (model X.prog X.w) X.A (eval b X.env) (fun u s₂ => wpAny (model X.prog X.w) X.A (f v u) Q X.xe s₂) X.xe s₁) X.xe s := by
  refine thn (ha pins s σ H _ I h) fun v s1 ⟨x, H1, I1, r1, q1⟩ => ?_
  refine thn (hb pins s1 σ H1 _ I1 q1) fun u s2 ⟨y, H2, I2, r2, q2⟩ => ?_
  exact hf v u s2 x y H2 I2 r1 r2 q2
theorem pe_op {op : Operator} {r : R2} (ho : OpR X (binaryOp op) r) (ha : PE X a ta) (hb : PE X b tb) : PE X (.BinOp a op b pos) (tOp r ta tb) := by
  intro pins s σ H Q I h
  exact wpAny_BinOp (binT ha hb I h fun v u s2 x y H2 I2 rx ry q => ho pins s2 σ H2 x y v u Q I2 rx ry q)
theorem pe_un {op : UnaryOp} {r : V → Hp → VK → Prop} (ho : UnR X (unaryOp op) r) (ha : PE X a ta) : PE X (.UnaryOp op a pos) (tUn r ta) := by
  intro pins s σ H Q I h
  exact UnaryOp_ (thn (ha pins s σ H _ I h) fun v s1 ⟨x, H1, I1, r1, q1⟩ => ho pins s1 σ H1 x v Q I1 r1 q1)
theorem opI {f : Value → Value → Sem Value} {C : Int → Int → Prop} {g : Int → Int → Int}
    (rule : ∀ (i j : Int) (t u : Tok) (s : Shared) (Q : Value → Shared → Prop) (E : Value → Shared → Prop), C i j → Q (.int (g i j) s.toks) { s with toks := s.toks + 1 } → wpAny (model X.prog X.w) X.A (f (.int i t) (.int j u)) Q E s) :
    OpR X f (rI C fun i j => .int (g i j)) := by
  intro pins s σ H x y v u Q I rx ry h
  obtain ⟨i, j, rfl, rfl, hc, q⟩ := h
  obtain ⟨t, rfl⟩ := rx
  obtain ⟨t', rfl⟩ := ry
  exact rule i j t t' s _ _ hc ⟨.int (g i j), H, I.tok _, ⟨_, rfl⟩, q⟩
theorem opI0 {f : Value → Value → Sem Value} {g : Int → Int → Int}
    (rule : ∀ (i j : Int) (t u : Tok) (s : Shared) (Q : Value → Shared → Prop) (E : Value → Shared → Prop), Q (.int (g i j) s.toks) { s with toks := s.toks + 1 } → wpAny (model X.prog X.w) X.A (f (.int i t) (.int j u)) Q E s) :
    OpR X f (rI0 fun i j => .int (g i j)) := by
  intro pins s σ H x y v u Q I rx ry h
  obtain ⟨i, j, rfl, rfl, q⟩ := h
  obtain ⟨t, rfl⟩ := rx
  obtain ⟨t', rfl⟩ := ry
  exact rule i j t t' s _ _ ⟨.int (g i j), H, I.tok _, ⟨_, rfl⟩, q⟩
theorem opB0 {f : Value → Value → Sem Value} {g : Int → Int → Bool}
    (rule : ∀ (i j : Int) (t u : Tok) (s : Shared) (Q : Value → Shared → Prop) (E : Value → Shared → Prop), Q (.bool (g i j)) s → wpAny (model X.prog X.w) X.A (f (.int i t) (.int j u)) Q E s) :
    OpR X f (rI0 fun i j => .bl (g i j)) := by
  intro pins s σ H x y v u Q I rx ry h
  obtain ⟨i, j, rfl, rfl, q⟩ := h
  obtain ⟨t, rfl⟩ := rx
  obtain ⟨t', rfl⟩ := ry
  exact rule i j t t' s _ _ ⟨.bl (g i j), H, I, rfl, q⟩
def CDiv (i j : Int) : Prop := 0 < j ∧ j < 1073741824
def CPow (i j : Int) : Prop := 0 ≤ j ∧ j ≤ 1000000 ∧ i.natAbs < 2 ^ 64
def CMul (i j : Int) : Prop := (-(2 ^ 64) < i ∧ i < 2 ^ 64) ∨ (-(2 ^ 64) < j ∧ j < 2 ^ 64)
theorem CMul.ok {i j : Int} (h : CMul i j) : IntMulOk i j := by
  rcases h with ⟨h1, h2⟩ | ⟨h1, h2⟩
  · exact .of_left (intBits_le_64 h1 h2)
  · exact .of_right (intBits_le_64 h1 h2)
theorem op_add : OpR X (binaryOp .Add) (rI0 fun i j => .int (i + j)) := opI0 fun _ _ _ _ _ _ _ q => add_int q
theorem op_sub : OpR X (binaryOp .Sub) (rI0 fun i j => .int (i - j)) := opI0 fun _ _ _ _ _ _ _ q => sub_int q
theorem op_mul : OpR X (binaryOp .Mult) (rI CMul fun i j => .int (i * j)) := opI fun _ _ _ _ _ _ _ hc q => mul_int q hc.ok
theorem op_fdiv : OpR X (binaryOp .FloorDiv) (rI CDiv fun i j => .int (i / j)) := opI fun i j _ _ _ _ _ hc q => by
  have h1 : (0 : Int) < j := hc.1
  have h2 : j < 1073741824 := hc.2
  exact floordiv_int (by omega) (by rw [Int.fdiv_eq_ediv_of_nonneg i (by omega)]; exact q) (.inl (PyProof.noPylong_small (by omega)))
theorem op_mod : OpR X (binaryOp .Mod) (rI (fun _ j => 0 < j) fun i j => .int (i % j)) := opI fun i j _ _ _ _ _ hc q => by
  have h1 : (0 : Int) < j := hc
  exact mod_int' (by omega) (by rw [Int.fmod_eq_emod_of_nonneg i (by omega)]; exact q)
theorem op_pow : OpR X (binaryOp .Pow) (rI CPow fun i j => .int (i ^ j.toNat)) := opI fun _ _ _ _ _ _ _ hc q => pow_int_small hc.1 hc.2.1 hc.2.2 q
theorem unI {f : Value → Sem Value} {g : Int → Int}
    (rule : ∀ (i : Int) (t : Tok) (s : Shared) (Q : Value → Shared → Prop) (E : Value → Shared → Prop), Q (.int (g i) s.toks) { s with toks := s.toks + 1 } → wpAny (model X.prog X.w) X.A (f (.int i t)) Q E s) :
    UnR X f (rU fun i => .int (g i)) := by
  intro pins s σ H x v Q I rx h
  obtain ⟨i, rfl, q⟩ := h
  obtain ⟨t, rfl⟩ := rx
  exact rule i t s _ _ ⟨.int (g i), H, I.tok _, ⟨_, rfl⟩, q⟩
theorem un_neg : UnR X (unaryOp .USub) (rU fun i => .int (-i)) := unI fun _ _ _ _ _ q => neg_int q
end
def scal : V → V → Bool
  | .non, .non => true | .non, .int _ => true | .int _, .non => true | .non, .bl _ => true | .bl _, .non => true | .non, .str _ => true | .str _, .non => true
  | .int _, .int _ => true | .bl _, .bl _ => true | .str _, .str _ => true | .byt _, .byt _ => true
  | .int _, .str _ => true | .str _, .int _ => true | .bl _, .str _ => true | .str _, .bl _ => true
  | _, _ => false
def rEq : R2 := fun x y H Q => scal x y = true ∧ Q (.bl (decide (x = y))) H
def rNe : R2 := fun x y H Q => scal x y = true ∧ Q (.bl (!decide (x = y))) H
theorem dec_int {i j : Int} : decide (V.int i = V.int j) = (i == j) := by
  rw [Bool.eq_iff_iff]
  simp
theorem dec_bl {i j : Bool} : decide (V.bl i = V.bl j) = (i == j) := by
  rw [Bool.eq_iff_iff]
  simp
theorem dec_str {i j : Str} : decide (V.str i = V.str j) = (i == j) := by
  rw [Bool.eq_iff_iff]
  simp
theorem dec_byt {i j : Array UInt8} : decide (V.byt i = V.byt j) = (i.toList == j.toList) := by
  rw [Bool.eq_iff_iff]
  cases i
  cases j
  simp
section
variable {X : Cx} {a b c : Expr} {ta tb tc : TE} {pos : Pos}
theorem fin_bl {pins : List (Addr × Obj)} {σ : St} {H : Hp} {s : Shared} {Q : VK} {k k' : Bool} (I : Inv X pins σ H s) (q : Q (.bl k) H) (e : k = k') : EP X pins σ Q (.bool k') s := by
  subst e
  exact ⟨.bl k, H, I, rfl, q⟩
theorem op_eq : OpR X (compareOp .Eq) rEq := by
  intro pins s σ H x y v u Q I rx ry h
  obtain ⟨hs, q⟩ := h
  cases x with
  | non =>
    cases rx
    cases y with
    | non => cases ry; exact PySem.EqNone.eq_none_none (fin_bl I q (by simp))
    | bl j => cases ry; exact PySem.EqNone.eq_none_bool (fin_bl I q (by simp))
    | int j => obtain ⟨t', rfl⟩ := ry; exact PySem.EqNone.eq_none_int (fin_bl I q (by simp))
    | str j => obtain ⟨t', rfl⟩ := ry; exact PySem.EqNone.eq_none_str (fin_bl I q (by simp))
    | _ => exact absurd (show false = true from hs) Bool.false_ne_true
  | bl i =>
    cases rx
    cases y with
    | non => cases ry; exact PySem.EqNone.eq_bool_none (fin_bl I q (by simp))
    | bl j => cases ry; exact eq_bool (fin_bl I q dec_bl)
    | str j => obtain ⟨t', rfl⟩ := ry; exact PySem.EqMixed.eq_bool_str (fin_bl I q (by simp))
    | _ => exact absurd (show false = true from hs) Bool.false_ne_true
  | int i =>
    obtain ⟨t, rfl⟩ := rx
    cases y with
    | non => cases ry; exact PySem.EqNone.eq_int_none (fin_bl I q (by simp))
    | int j => obtain ⟨t', rfl⟩ := ry; exact eq_int (fin_bl I q dec_int)
    | str j => obtain ⟨t', rfl⟩ := ry; exact PySem.EqMixed.eq_int_str (fin_bl I q (by simp))
    | _ => exact absurd (show false = true from hs) Bool.false_ne_true
  | str i =>
    obtain ⟨t, rfl⟩ := rx
    cases y with
    | non => cases ry; exact PySem.EqNone.eq_str_none (fin_bl I q (by simp))
    | bl j => cases ry; exact PySem.EqMixed.eq_str_bool (fin_bl I q (by simp))
    | int j => obtain ⟨t', rfl⟩ := ry; exact PySem.EqMixed.eq_str_int (fin_bl I q (by simp))
    | str j => obtain ⟨t', rfl⟩ := ry; exact eq_str (fin_bl I q dec_str)
    | _ => exact absurd (show false = true from hs) Bool.false_ne_true
  | byt i =>
    obtain ⟨t, rfl⟩ := rx
    cases y with
    | byt j => obtain ⟨t', rfl⟩ := ry; exact PySem.W.eq_bytes (fin_bl I q dec_byt)
    | _ => exact absurd (show false = true from hs) Bool.false_ne_true
  | _ => cases y <;> exact absurd (show false = true from hs) Bool.false_ne_true
theorem op_ne : OpR X (compareOp .NotEq) rNe := by
  intro pins s σ H x y v u Q I rx ry h
  obtain ⟨hs, q⟩ := h
  cases x with
  | non =>
    cases rx
    cases y with
    | non => cases ry; exact PySem.EqNone.ne_none_none (fin_bl I q (by simp))
    | bl j => cases ry; exact PySem.EqNone.ne_none_bool (fin_bl I q (by simp))
    | int j => obtain ⟨t', rfl⟩ := ry; exact PySem.EqNone.ne_none_int (fin_bl I q (by simp))
    | str j => obtain ⟨t', rfl⟩ := ry; exact PySem.EqNone.ne_none_str (fin_bl I q (by simp))
    | _ => exact absurd (show false = true from hs) Bool.false_ne_true
  | bl i =>
    cases rx
    cases y with
    | non => cases ry; exact PySem.EqNone.ne_bool_none (fin_bl I q (by simp))
    | bl j => cases ry; exact ne_bool (fin_bl I q (congrArg not dec_bl))
    | str j => obtain ⟨t', rfl⟩ := ry; exact PySem.EqMixed.ne_bool_str (fin_bl I q (by simp))
    | _ => exact absurd (show false = true from hs) Bool.false_ne_true
  | int i =>
    obtain ⟨t, rfl⟩ := rx
    cases y with
    | non => cases ry; exact PySem.EqNone.ne_int_none (fin_bl I q (by simp))
    | int j => obtain ⟨t', rfl⟩ := ry; exact ne_int (fin_bl I q (congrArg not dec_int))
    | str j => obtain ⟨t', rfl⟩ := ry; exact PySem.EqMixed.ne_int_str (fin_bl I q (by simp))
    | _ => exact absurd (show false = true from hs) Bool.false_ne_true
  | str i =>
    obtain ⟨t, rfl⟩ := rx
    cases y with
    | non => cases ry; exact PySem.EqNone.ne_str_none (fin_bl I q (by simp))
    | bl j => cases ry; exact PySem.EqMixed.ne_str_bool (fin_bl I q (by simp))
    | int j => obtain ⟨t', rfl⟩ := ry; exact PySem.EqMixed.ne_str_int (fin_bl I q (by simp))
    | str j => obtain ⟨t', rfl⟩ := ry; exact ne_str (fin_bl I q (congrArg not dec_str))
    | _ => exact absurd (show false = true from hs) Bool.false_ne_true
  | byt i =>
    obtain ⟨t, rfl⟩ := rx
    cases y with
    | byt j => obtain ⟨t', rfl⟩ := ry; exact PySem.W.ne_bytes (fin_bl I q (congrArg not dec_byt))
    | _ => exact absurd (show false = true from hs) Bool.false_ne_true
  | _ => cases y <;> exact absurd (show false = true from hs) Bool.false_ne_true
theorem op_lt : OpR X (compareOp .Lt) (rI0 fun i j => .bl (decide (i < j))) := opB0 fun _ _ _ _ _ _ _ q => lt_int q
theorem op_le : OpR X (compareOp .LtE) (rI0 fun i j => .bl (decide (i ≤ j))) := opB0 fun _ _ _ _ _ _ _ q => le_int q
theorem op_gt : OpR X (compareOp .Gt) (rI0 fun i j => .bl (decide (j < i))) := opB0 fun _ _ _ _ _ _ _ q => gt_int q
theorem op_isN : OpR X (compareOp .Is) (fun x y H Q => y = .non ∧ Q (.bl (decide (x = .non))) H) := by
  intro pins s σ H x y v u Q I rx ry h
  obtain ⟨rfl, q⟩ := h
  cases ry
  refine is_none_gen (fin_bl I q ?_)
  cases x <;> first
    | (cases rx; rfl)
    | (obtain ⟨t, rfl⟩ := rx; rfl)
theorem op_notN : OpR X (compareOp .IsNot) (fun x y H Q => y = .non ∧ Q (.bl (!decide (x = .non))) H) := by
  intro pins s σ H x y v u Q I rx ry h
  obtain ⟨rfl, q⟩ := h
  cases ry
  refine isnot_none_gen (fin_bl I q ?_)
  cases x <;> first
    | (cases rx; rfl)
    | (obtain ⟨t, rfl⟩ := rx; rfl)
theorem nomark (b : Expr) {op : CmpOp} (h : op ≠ .In := by decide) (h2 : op ≠ .NotIn := by decide) : behindInMarks op b = false := by
  have e1 : (op == CmpOp.In) = false := by cases op <;> first | rfl | exact absurd rfl h
  have e2 : (op == CmpOp.NotIn) = false := by cases op <;> first | rfl | exact absurd rfl h2
  cases b <;> simp [behindInMarks, e1, e2]
theorem pe_cmpR {op : CmpOp} {r : R2} (ho : OpR X (compareOp op) r) (ha : PE X a ta) (hb : PE X b tb) (hm : behindInMarks op b = false) : PE X (.Compare a [op] [b] pos) (tOp r ta tb) := by
  intro pins s σ H Q I h
  exact wpAny_Compare1 (binT ha hb I h fun v u s2 x y H2 I2 rx ry q => ho pins s2 σ H2 x y v u Q I2 rx ry q) hm
def tTest (t : TE) : TT := fun σ H Q => t σ H fun x H' => ∃ k, x = .bl k ∧ Q k H'
theorem pt_cmpR {op : CmpOp} {r : R2} (ho : OpR X (compareOp op) r) (ha : PE X a ta) (hb : PE X b tb) (hm : behindInMarks op b = false) : PT X (.Compare a [op] [b] pos) (tTest (tOp r ta tb)) := by
  intro pins s σ H Q I h
  refine wpAny_isTrue_Compare1 (thn (ha pins s σ H _ I h) fun v s1 ⟨x, H1, I1, r1, q1⟩ => thn (hb pins s1 σ H1 _ I1 q1) fun u s2 ⟨y, H2, I2, r2, q2⟩ =>
    thn (ho pins s2 σ H2 x y v u _ I2 r1 r2 q2) fun c s3 ⟨z, H3, I3, r3, k, e, q3⟩ => ?_) hm
  subst e
  cases r3
  exact wpAny_truthy_bool ⟨H3, I3, q3⟩
theorem line63 : (sizeLine : Nat) < 2 ^ 63 := by rw [sizeLine_eq]; decide
theorem op_add_str : OpR X (binaryOp .Add) (fun x y H Q => ∃ i j, x = .str i ∧ y = .str j ∧ i.length + j.length ≤ sizeLine ∧ Q (.str (i ++ j)) H) := by
  intro pins s σ H x y v u Q I rx ry h
  obtain ⟨i, j, rfl, rfl, hz, q⟩ := h
  obtain ⟨t, rfl⟩ := rx
  obtain ⟨t', rfl⟩ := ry
  exact add_str (fun t' tk => ⟨.str (i ++ j), H, I.tok _, ⟨_, rfl⟩, q⟩) hz
theorem vals1 {x : V} {us : List Value} (r : Vals [x] us) : ∃ u, us = [u] ∧ RelV x u := by
  cases r with
  | cons r1 r2 => cases r2; exact ⟨_, rfl, r1⟩
theorem call_int1 : CallR X (.type "int") (fun xs H Q => (∃ i, xs = [.int i] ∧ Q (.int i) H) ∨ ∃ k, xs = [.bl k] ∧ Q (.int (if k then 1 else 0)) H) := by
  intro pins s σ H xs us Q I r h
  rcases h with ⟨i, rfl, q⟩ | ⟨k, rfl, q⟩
  · obtain ⟨u, rfl, t, rfl⟩ := vals1 r
    exact call_int_int ⟨.int i, H, I, ⟨_, rfl⟩, q⟩
  · obtain ⟨u, rfl, r1⟩ := vals1 r
    cases r1
    exact call_int_bool ⟨.int (if k then 1 else 0), H, I.tok _, ⟨_, rfl⟩, q⟩
end
end L2
namespace L2
open PySem PySem.Spec PyProof.Rows
structure ObjM (h : Heap) (x dx C : Addr) (mA : Str → Option Value) : Prop where
  obj : h.get? x = some (PySem.W.instObj C dx)
  ns : h.Ns1 dx mA
  ne : dx ≠ x
theorem lookIn_ns {h : Heap} {dx : Addr} {mA : Str → Option Value} (n : h.Ns1 dx mA) : ∃ od, h.get? dx = some od ∧ ∀ name, PySem.W.lookIn name od = some (mA name) := by
  obtain ⟨o, es, ep, ho, hd, hk, _, hm⟩ := n
  refine ⟨o, ho, fun name => ?_⟩
  have e := hm name
  unfold nsFind findBy at e
  rw [← Array.find?_toList] at e
  unfold PySem.W.lookIn
  rw [hd]
  dsimp only
  split
  · rename_i y q
    rw [q] at e
    exact congrArg some e
  · rename_i q
    rw [q] at e
    have a : es.toList.any (·.refKey) = false := by
      rw [List.any_eq_false]
      intro y hy
      obtain ⟨z, t, hkey⟩ := hk y (Array.mem_toList_iff.mp hy)
      simp [DictEntry.refKey, hkey]
    have a' : ¬ es.toList.any (·.refKey) = true := by rw [a]; exact Bool.false_ne_true
    rw [if_neg a']
    exact congrArg some e
theorem ObjM.look {h : Heap} {x dx C : Addr} {mA : Str → Option Value} (I : ObjM h x dx C mA) : ∃ od, PySem.W.InstAt h x (PySem.W.instObj C dx) C (some od) ∧ ∀ name, PySem.W.lookIn name od = some (mA name) :=
  let ⟨od, ho, hl⟩ := lookIn_ns I.ns
  ⟨od, ⟨I.obj, rfl, rfl, ho⟩, hl⟩
section
variable {prog : Program} {w : World} {A : Around} {E : Value → Shared → Prop} {s : Shared} {K : PySem.W.Frag} {x dx C f : Addr} {mA : Str → Option Value} {name : Str} {v : Value}
end
theorem RelO.some_of {v : V} {o : Option Value} (r : RelO (some v) o) : ∃ u, o = some u ∧ RelV v u := by
  cases o with
  | none => exact (show False from r).elim
  | some u => exact ⟨u, rfl, r⟩
section
variable {P : Program} {w : World} {H H' : Hp} {h h' : Heap} {a C dx : Addr} {fs fs' : List (Str × V)}
theorem ins_get (hok : HOk P w H h) (e : H a = some (.ins C dx fs)) : ∃ mA, ObjM h a dx C mA ∧ (∀ f, RelO (fs.lookup f) (mA f)) ∧ PySem.Within mA (fs.map (·.1)) ∧ fs.length ≤ 1000 ∧ H dx = some (.own a) := by
  obtain ⟨d, z, ne, ob, mA, n, r, q⟩ := (show ObjOk P w H h a (.ins C dx fs) from hok a _ e)
  exact ⟨mA, ⟨ob, n, ne⟩, r, q, z, d⟩
end
structure Cls (K : PySem.W.Frag) (C : Addr) : Prop where
  pg : PySem.W.plainGet K C Str.empty = true
  hd : PySem.W.hasDictIn K C = true
  po : PySem.W.plainOver K C = true
  sa : PySem.W.findIn K (.ref C) "__setattr__" = some (some (.builtin "object.__setattr__"))
theorem Cls.get {K : PySem.W.Frag} {C : Addr} (c : Cls K C) (f : Str) : PySem.W.plainGet K C f = true := c.pg
structure Con (K : PySem.W.Frag) (C : Addr) (f : Str) (v : V) (u : Value) : Prop where
  at_ : PySem.W.findIn K (.ref C) f = some (some u)
  rel : RelV v u
  get : PySem.W.specialIn K u "__get__" = some none
  cp : PySem.W.copiedNames.contains f = false
structure Meth (K : PySem.W.Frag) (C : Addr) (m : Str) (f : Addr) : Prop where
  at_ : PySem.W.findIn K (.ref C) m = some (some (.ref f))
  fn : PySem.W.isFn K (.ref f) = true
  kp : PySem.W.keepIn K (.ref f) = true
section
variable {X : Cx} {pins : List (Addr × Obj)} {σ : St} {H : Hp} {s : Shared} {a C dx : Addr} {fs : List (Str × V)} {f : Str} {v : V} {A : Around} {E : Value → Shared → Prop}
end
section
variable {X : Cx} {o e value : Expr} {f : Str} {pos pos' tpos : Pos} {ta tv : TE}
end
section
variable {X : Cx} {pins : List (Addr × Obj)} {σ : St} {H : Hp} {s : Shared} {A : Around} {E : Value → Shared → Prop} {Q : Value → Shared → Prop} {c : Value} {b : Bool}
inductive TyOf (K : PySem.W.Frag) (H : Hp) : V → Value → Prop where
  | non : TyOf K H .non (.type "NoneType")
  | bl (x : Bool) : TyOf K H (.bl x) (.type "bool")
  | int (i : Int) : TyOf K H (.int i) (.type "int")
  | str (x : Str) : TyOf K H (.str x) (.type "str")
  | flt (x : UInt64) : TyOf K H (.flt x) (.type "float")
  | lst {a : Addr} {xs : List V} (e : H a = some (.lst xs)) : TyOf K H (.ref a) (.type "list")
  | frz {a : Addr} {o : Obj} {xs : List V} (e : H a = some (.frz o (.lst xs))) : TyOf K H (.ref a) (.type "list")
  | tup {a : Addr} {xs : List V} (e : H a = some (.tup xs)) : TyOf K H (.ref a) (.type "tuple")
  | dK {a : Addr} {kvs : List (Key × V)} (e : H a = some (.dK kvs)) : TyOf K H (.ref a) (.type "dict")
  | dT {a : Addr} {kvs : List (List Key × V)} (e : H a = some (.dT kvs)) : TyOf K H (.ref a) (.type "dict")
  | ins {a C dx : Addr} {fs : List (Str × V)} (e : H a = some (.ins C dx fs)) (cl : Cls K C) (ha : PySem.W.findIn K (.ref C) "__class__" = some (some (.builtin "object.__class__")))
      (hn : PySem.W.specialIn K (.builtin "object.__class__") "__get__" = some (some (.builtin "getset_descriptor.__get__"))) (htk : PySem.W.takesIn K (.builtin "object.__class__") = some true)
      (hm : PySem.W.mroIn K C (.type "object") = some true) : TyOf K H (.ref a) (.ref C)
theorem isinst_ok {x : V} {u t : Value} (I : Inv X pins σ H s) (rx : RelV x u) (ty : TyOf X.K H x t) (e : PySem.W.kitOne X.K t c = some b) (h : ∀ tk, Q (.bool b) { s with toks := tk }) :
    wpAny (model X.prog X.w) A (call (.builtin "isinstance") [u, c]) Q E s := by
  cases ty with
  | non => cases (show u = Value.none from rx); exact PySem.W.kia_one PySem.W.kitx_none I.kIn True.intro e (fun z => nomatch z) h
  | bl y => cases (show u = Value.bool y from rx); exact PySem.W.kia_one PySem.W.kitx_bool I.kIn True.intro e (fun z => nomatch z) h
  | int i => obtain ⟨t, q⟩ := (show ∃ t, u = Value.int i t from rx); cases q; exact PySem.W.kia_one PySem.W.kitx_int I.kIn True.intro e (fun z => nomatch z) h
  | str y => obtain ⟨t, q⟩ := (show ∃ t, u = Value.str y t from rx); cases q; exact PySem.W.kia_one PySem.W.kitx_str I.kIn True.intro e (fun z => nomatch z) h
  | flt y => obtain ⟨t, q⟩ := (show ∃ t, u = Value.float y t from rx); cases q; exact PySem.W.kia_one PySem.W.kitx_float I.kIn True.intro e (fun z => nomatch z) h
  | @lst a xs ea =>
    cases (show u = Value.ref a from rx)
    obtain ⟨_, _, n, _, h1⟩ := (show ObjOk X.prog X.w H s.heap a (.lst xs) from I.hok a _ ea)
    exact PySem.W.kia_one PySem.W.kitx_list I.kIn ⟨_, h1, rfl⟩ e (fun z => nomatch z) h
  | @frz a ob xs ea =>
    cases (show u = Value.ref a from rx)
    obtain ⟨_, _, _, n, _, h1⟩ := (show ObjOk X.prog X.w H s.heap a (.frz ob (.lst xs)) from I.hok a _ ea)
    exact PySem.W.kia_one PySem.W.kitx_list I.kIn ⟨_, h1, rfl⟩ e (fun z => nomatch z) h
  | @tup a xs ea =>
    cases (show u = Value.ref a from rx)
    obtain ⟨_, _, _, p⟩ := (show ObjOk X.prog X.w H s.heap a (.tup xs) from I.hok a _ ea)
    obtain ⟨o, h1, h2, _⟩ := p
    exact PySem.W.kia_one PySem.W.kitx_tuple I.kIn ⟨o, h1, h2⟩ e (fun z => nomatch z) h
  | @dK a kvs ea =>
    cases (show u = Value.ref a from rx)
    obtain ⟨_, _, vs, _, p⟩ := (show ObjOk X.prog X.w H s.heap a (.dK kvs) from I.hok a _ ea)
    obtain ⟨o, es, ep, h1, h2, _⟩ := p
    exact PySem.W.kia_one PySem.W.kitx_dict I.kIn ⟨o, h1, h2.1⟩ e (fun z => nomatch z) h
  | @dT a kvs ea =>
    cases (show u = Value.ref a from rx)
    obtain ⟨_, _, xs, _, o, es, ep, h1, h2, _⟩ := (show ObjOk X.prog X.w H s.heap a (.dT kvs) from I.hok a _ ea)
    exact PySem.W.kia_one PySem.W.kitx_dict I.kIn ⟨o, h1, h2.1⟩ e (fun z => nomatch z) h
  | @ins a C dx fs ea cl ha hn htk hm =>
    cases (show u = Value.ref a from rx)
    obtain ⟨mA, O, _⟩ := ins_get I.hok ea
    obtain ⟨od, J, _⟩ := O.look
    exact PySem.W.kia_one (PySem.W.kitx_own (cl.get _) cl.hd ha hn htk hm) I.kIn J e (fun z => nomatch z) h
end
end L2
namespace L2
open PySem PySem.Spec PyProof.Rows
structure Room (k : Nat) (A : Around) : Prop where
  dp : A.depth + 3 * k + 5 < recursionLimit
  un : A.units + 16 * k + 200 < cLine
  hd : 130 ≤ k → A.handled = none
theorem Room.mono {j k : Nat} {A : Around} (r : Room k A) (h : j ≤ k) : Room j A := ⟨by have := r.dp; omega, by have := r.un; omega, fun z => r.hd (by omega)⟩
theorem Room.deeper {k : Nat} {A : Around} (r : Room (k + 1) A) (env : Env) : Room k (A.deeper env) :=
  ⟨by have := r.dp; show A.depth + 1 + 3 * k + 5 < _; omega, by have := r.un; show A.units + 3 + 16 * k + 200 < _; omega, fun z => r.hd (by omega)⟩
theorem Room.depth {k : Nat} {A : Around} (r : Room k A) : A.depth < recursionLimit := by have := r.dp; omega
theorem Room.units {k : Nat} {A : Around} (r : Room k A) : A.units + 64 < cLine := by have := r.un; omega
def tNil : TA := fun _ H Q => Q [] H
def tCons (ta : TE) (tr : TA) : TA := fun σ H Q => ta σ H fun x H1 => tr σ H1 fun xs H2 => Q (x :: xs) H2
section
variable {X : Cx} {e : Expr} {es : List Expr} {te : TE} {t : TA} {pos : Pos}
theorem pa_nil : PA X [] tNil := fun _ _ _ _ H Q I h => Calls.spliced_nil ⟨[], H, I, .nil, h⟩
theorem pa_cons (ha : PE X e te) (hr : PA X es t) (hs : starEach (e :: es) X.env = (false, eval e X.env) :: starEach es X.env := by rfl) : PA X (e :: es) (tCons te t) := by
  intro pos pins s σ H Q I h
  rw [hs]
  show wpAny _ _ (spliced ((false, eval e X.env) :: backTo pos (starEach es X.env))) _ _ s
  refine Calls.spliced_cons (thn (ha pins s σ H _ I h) fun u s1 ⟨x, H1, I1, r1, q1⟩ => ?_)
  exact thn (hr pos pins s1 σ H1 _ I1 q1) fun us s2 ⟨xs, H2, I2, r2, q2⟩ => ⟨x :: xs, H2, I2, .cons r1 r2, q2⟩
def tTup (t : TA) : TE := fun σ H Q => t σ H fun xs H1 => xs.length ≤ sizeLine ∧ ∀ p, H1 p = none → Q (.ref p) (upd H1 p (.tup xs))
def tLst (t : TA) : TE := fun σ H Q => t σ H fun xs H1 => xs.length ≤ sizeLine ∧ ∀ p, H1 p = none → Q (.ref p) (upd H1 p (.lst xs))
theorem pe_tup {x1} (h : PA X es t) : PE X (.Tuple es x1 pos) (tTup t) := by
  intro pins s σ H Q I hq
  refine wpAny_Tuple_spliced (thn (h pos pins s σ H _ I hq) fun us s1 ⟨xs, H1, I1, r, z, q⟩ => ⟨by rw [← r.length]; exact z, ?_⟩)
  have hf : H1 s1.heap.objs.size = none := I1.hok.fresh (Nat.le_refl _)
  refine ⟨.ref s1.heap.objs.size, upd H1 s1.heap.objs.size (.tup xs), I1.laid (t' := s1.toks) (fun b u e => Heap.get?_push_of_some _ e) (Nat.le_refl _) ?_, rfl, q _ hf⟩
  exact ⟨z, us, r, ⟨_, Heap.get?_push_size _ rfl, rfl, _, rfl⟩⟩
theorem pe_lst (h : PA X es t) : PE X (.List es pos) (tLst t) := by
  intro pins s σ H Q I hq
  refine wpAny_List_spliced (thn (h pos pins s σ H _ I hq) fun us s1 ⟨xs, H1, I1, r, z, q⟩ => ⟨by rw [← r.length]; exact z, ?_⟩)
  have hf : H1 s1.heap.objs.size = none := I1.hok.fresh (Nat.le_refl _)
  refine ⟨.ref s1.heap.objs.size, upd H1 s1.heap.objs.size (.lst xs), I1.laid (t' := s1.toks) (fun b u e => Heap.get?_push_of_some _ e) (Nat.le_refl _) ?_, rfl, q _ hf⟩
  exact ⟨z, us, 0, r, Heap.get?_push_size _ rfl⟩
end
abbrev Sp := List V → Hp → VK → XK → Prop
abbrev CXT := Option Value → List Env → Hp → Shared → XK → Value → Shared → Prop
structure Env0 (P : Program) (w : World) (K : PySem.W.Frag) (mg : Str → Option Value) (base : Heap) (A : Around) (outer : List Env) (s : Shared) (H : Hp) : Prop where
  frames : A.frames = some outer
  mod : Mod K mg base
  bs : ∀ b o, base.get? b = some o → s.heap.get? b = some o ∧ H b = none
  bsz : base.objs.size ≤ s.heap.objs.size
  funs : s.heap.FunFrames base outer
  frf : ∀ b ∈ frs outer, H b = none
  hok : HOk P w H s.heap
  bare : AllBare s.gens
  hdl : HB base A
def CE (outer : List Env) (P : Program) (w : World) (H : Hp) (s : Shared) (Q : VK) (u : Value) (s' : Shared) : Prop :=
  ∃ v H', s'.os = s.os ∧ AllBare s'.gens ∧ Un (frs outer) [] H H' s.heap s'.heap ∧ HOk P w H' s'.heap ∧ RelV v u ∧ Q v H'
def CR (CX : CXT) (hh : Option Value) (outer : List Env) (P : Program) (w : World) (H : Hp) (s : Shared) (Q : VK) (E : XK) (r : Result) (s' : Shared) : Prop :=
  match r with
  | .ok (.ret u) => CE outer P w H s Q u s'
  | .ok _ => False
  | .error e => CX hh outer H s E e s'
structure FnOk (P : Program) (w : World) (K : PySem.W.Frag) (mg : Str → Option Value) (base : Heap) (CX : CXT) (k : Nat) (f : Addr) (fd : FuncData) (ps : List Str) (sp : Sp) : Prop where
  len : ∀ vs H Q E, sp vs H Q E → vs.length = ps.length
  run : ∀ (A : Around) (outer : List Env) (s : Shared) (H : Hp) (args : Args) (us : List Value) (vs : List V) (Q : VK) (E : XK), Room k A → Env0 P w K mg base A outer s H → BindsTo s fd args (ps.zip us) → Vals vs us → sp vs H Q E →
    codeAny (model P w) A (.call (.ref f) args) (CR CX A.handled outer P w H s Q E) s
theorem FnOk.mono {P : Program} {w : World} {K : PySem.W.Frag} {mg : Str → Option Value} {base : Heap} {CX : CXT} {j k : Nat} {f : Addr} {fd : FuncData} {ps : List Str} {sp : Sp} (F : FnOk P w K mg base CX j f fd ps sp) (h : j ≤ k) :
    FnOk P w K mg base CX k f fd ps sp := ⟨F.len, fun A outer s H args us vs Q E hr => F.run A outer s H args us vs Q E (hr.mono h)⟩
section
variable {X : Cx} {pins : List (Addr × Obj)} {σ : St} {H : Hp} {s s' : Shared}
theorem Inv.after {Q : VK} {u : Value} (I : Inv X pins σ H s) (h : CE X.stack X.prog X.w H s Q u s') : EP X pins σ Q u s' := by
  obtain ⟨v, H', os, bare, un, hok, r, q⟩ := h
  obtain ⟨hh, g, d, t, os'⟩ := s'
  obtain rfl : os' = s.os := os
  exact ⟨v, H', I.call (h' := hh) (g' := g) (d' := d) (t' := t) (ch := []) un hok bare (fun b z => absurd z (by simp)), r, q⟩
end
def tCall (sp : Sp) (dvs : List V) (E : XK) (t : TA) : TE := fun σ H Q => t σ H fun vs H1 => sp (vs ++ dvs) H1 Q E
def Binds (K : PySem.W.Frag) (fd : FuncData) (ps : List Str) (ds : List Value) : Prop :=
  ∀ (s : Shared) (us : List Value), K.In s.heap → (us ++ ds).length = ps.length → BindsTo s fd ⟨us, []⟩ (ps.zip (us ++ ds))
theorem Binds.all {K : PySem.W.Frag} {fd : FuncData} {ps : List Str} (h : ∀ us : List Value, us.length = ps.length → bindArgs fd ⟨us, []⟩ = pure (ps.zip us)) : Binds K fd ps [] := fun s us _ hl => by
  rw [List.append_nil] at hl ⊢
  exact .of_eq (h us hl)
def Passes (CX : CXT) (X : Cx) (E : XK) : Prop := ∀ (pins : List (Addr × Obj)) (σ : St) (H : Hp) (s : Shared) (e : Value) (s' : Shared), Inv X pins σ H s → CX X.A.handled X.stack H s E e s' → X.xe e s'
section
variable {X : Cx} {CX : CXT} {k : Nat} {f C : Addr} {fd : FuncData} {ps : List Str} {sp : Sp} {dvs : List V} {ds : List Value} {E : XK} {x m : Str} {p pos apos : Pos} {e o : Expr} {es : List Expr} {ta : TE} {t : TA}
end
def PK (X : Cx) (kws : List Keyword) (t : TA) : Prop :=
  ∀ (pos : Pos) (pins : List (Addr × Obj)) (s : Shared) (σ : St) (H : Hp) (Q : List V → Hp → Prop), Inv X pins σ H s → t σ H Q → wpAny (model X.prog X.w) X.A (evalAll ((backToKw pos (keywordEach kws X.env)).map (·.2))) (AP X pins σ Q) X.xe s
section
variable {X : Cx} {CX : CXT} {k : Nat} {f C : Addr} {fd : FuncData} {ps ks : List Str} {sp : Sp} {E : XK} {x m : Str} {p pos apos kpos : Pos} {e o : Expr} {es : List Expr} {kws : List Keyword} {te ta : TE} {t tk : TA} {nm : Option Str}
end
structure FnScope (N P : List Str) (sc : Scope) : Prop where
  kind : sc.kind = .function
  co : sc.isCoroutine = false
  gen : sc.isGenerator = false
  nd : N.Nodup
  pre : N.take P.length = P
  par : ∀ x ∈ P, sc.names.lookup x = some .local ∨ sc.names.lookup x = some .cell
  nofree : ∀ y ∈ sc.names, y.2 ≠ .free
theorem bindL_out {kindOf : Str → Option NameKind} {x : Str} : ∀ {binds : List (Str × Value)} {m : Str → Option Value}, (∀ v, (x, v) ∉ binds) → bindL kindOf binds m x = m x
  | [], _, _ => rfl
  | (n, v) :: r, m, h => by
    unfold bindL
    rw [bindL_out fun w hw => h w (List.mem_cons_of_mem _ hw)]
    split
    · have : x ≠ n := by rintro rfl; exact h v List.mem_cons_self
      simp [this]
    · rfl
theorem bindC_out {kindOf : Str → Option NameKind} {x : Str} : ∀ {binds : List (Str × Value)} {m : Str → Option Value}, (∀ v, (x, v) ∉ binds) → bindC kindOf binds m x = m x
  | [], _, _ => rfl
  | (n, v) :: r, m, h => by
    unfold bindC
    rw [bindC_out fun w hw => h w (List.mem_cons_of_mem _ hw)]
    split
    · rfl
    · have : x ≠ n := by rintro rfl; exact h v List.mem_cons_self
      simp [this]
theorem bindL_get {kindOf : Str → Option NameKind} {x : Str} {v : Value} : ∀ {P : List Str} {vs : List Value} {i : Nat} {m : Str → Option Value}, P.Nodup → P[i]? = some x → vs[i]? = some v → kindOf x = some .local →
    bindL kindOf (P.zip vs) m x = some v
  | [], _, _, _, _, h, _, _ => by simp at h
  | _ :: _, [], _, _, _, _, h, _ => by simp at h
  | p :: P, w :: vs, 0, m, nd, h1, h2, hk => by
    simp at h1 h2; subst h1; subst h2
    show bindL kindOf ((p, w) :: P.zip vs) m p = _
    unfold bindL
    rw [bindL_out fun v hv => (List.nodup_cons.mp nd).1 (List.of_mem_zip hv).1, if_pos hk]
    simp
  | p :: P, w :: vs, i + 1, m, nd, h1, h2, hk => by
    show bindL kindOf ((p, w) :: P.zip vs) m x = _
    unfold bindL
    exact bindL_get (i := i) (List.nodup_cons.mp nd).2 (by simpa using h1) (by simpa using h2) hk
theorem bindC_get {kindOf : Str → Option NameKind} {x : Str} {v : Value} : ∀ {P : List Str} {vs : List Value} {i : Nat} {m : Str → Option Value}, P.Nodup → P[i]? = some x → vs[i]? = some v → kindOf x ≠ some .local →
    bindC kindOf (P.zip vs) m x = some v
  | [], _, _, _, _, h, _, _ => by simp at h
  | _ :: _, [], _, _, _, _, h, _ => by simp at h
  | p :: P, w :: vs, 0, m, nd, h1, h2, hk => by
    simp at h1 h2; subst h1; subst h2
    show bindC kindOf ((p, w) :: P.zip vs) m p = _
    unfold bindC
    rw [bindC_out fun v hv => (List.nodup_cons.mp nd).1 (List.of_mem_zip hv).1, if_neg hk]
    simp
  | p :: P, w :: vs, i + 1, m, nd, h1, h2, hk => by
    show bindC kindOf ((p, w) :: P.zip vs) m x = _
    unfold bindC
    exact bindC_get (i := i) (List.nodup_cons.mp nd).2 (by simpa using h1) (by simpa using h2) hk
def start (N : List Str) (vs : List V) : St := vs.map some ++ List.replicate (N.length - vs.length) none
def cxOf (CX : CXT) (P : Program) (w : World) (K : PySem.W.Frag) (mg : Str → Option Value) (base : Heap) (N : List Str) (qual : Str) (scope : Scope) (f : Addr) (cd : Value) (A : Around) (outer : List Env) (s : Shared) (H : Hp) (E : XK) : Cx where
  prog := P
  w := w
  K := K
  mg := mg
  base := base
  A := A.deeper (envOfC qual scope s.heap.objs.size f cd)
  N := N
  s₀ := s
  H₀ := H
  env := envOfC qual scope s.heap.objs.size f cd
  outer := outer
  stack := envOfC qual scope s.heap.objs.size f cd :: outer
  ex := []
  calm := true
  fn := fun _ => true
  pn := []
  xe := fun e s' => wpAny (model P w) (A.deeper (envOfC qual scope s.heap.objs.size f cd)) (leaving (envOfC qual scope s.heap.objs.size f cd) e) (fun _ s'' => CX A.handled outer H s E e s'') (fun e' s'' => CX A.handled outer H s E e' s'') s'
theorem cell_has {sc : Scope} {n : Nat} {x : Str} (h : sc.names.lookup x = some .cell) : ∃ c, (cellsFrom n sc.names []).lookup x = some c := by
  have q := PySem.W.cellsFrom_some sc.names n [] (.inl h)
  exact Option.isSome_iff_exists.mp q
theorem inv_start {CX : CXT} {P : Program} {w : World} {K : PySem.W.Frag} {mg : Str → Option Value} {base : Heap} {N ps : List Str} {qual : Str} {scope : Scope} {f : Addr} {cd : Value} {A : Around} {outer : List Env} {s s1 : Shared} {H : Hp} {E : XK} {us : List Value} {vs : List V}
    (S : FnScope N ps scope) (e0 : Env0 P w K mg base A outer s H) (hl : vs.length = ps.length) (r : Vals vs us)
    (x : InCallC s s.heap.objs.size (bindL (envOfC qual scope s.heap.objs.size f cd).kindOf (ps.zip us) fun _ => none) (cellsFrom (s.heap.objs.size + 1) scope.names []) (bindC (envOfC qual scope s.heap.objs.size f cd).kindOf (ps.zip us) fun _ => none) s1) :
    Inv (cxOf CX P w K mg base N qual scope f cd A outer s H E) [] (start N vs) H s1 := by
  have hpl : ps.length ≤ N.length := by have := congrArg List.length S.pre; rw [List.length_take] at this; omega
  obtain ⟨h1, tk, rfl, hk⟩ := x.done
  have noA : ∀ b : Addr, b ∉ (cxOf CX P w K mg base N qual scope f cd A outer s H E).ex := fun b z => absurd (show b ∈ ([] : List Addr) from z) (by simp)
  refine ⟨⟨e0.mod, S.kind, rfl, rfl, Nat.le_refl _, fun y z c h1 h2 => ?_, fun y hy => ?_, fun y c _ h => ?_, fun _ => e0.hdl.toP, Around.frames_deeper e0.frames, .inr ⟨rfl, rfl⟩, fun b z => absurd z (noA b), e0.bs, e0.bsz, fun b _ _ => noA b, fun b z => absurd z (noA b), e0.funs, e0.frf⟩,
    rfl, e0.bare, Un.kept hk, ⟨_, x.toInCall.ns, fun i y v h1 h2 h3 => ?_⟩, fun y c h => ⟨_, x.cell y c h⟩, e0.hok.fresh (Nat.le_refl _), fun y c h => ?_, fun p hp => absurd (show p ∈ ([] : List (Addr × Obj)) from hp) (by simp), e0.hok.kept hk, ?_⟩
  · exact name_of_addr x.apart (PySem.mem_of_lookup h1) (PySem.mem_of_lookup h2)
  · have hy : scope.names.lookup y = some .cell ∨ scope.names.lookup y = some .free := hy
    rcases hy with hy | hy
    · exact cell_has hy
    · exact absurd rfl (S.nofree _ (PySem.mem_of_lookup hy))
  · exact Nat.le_of_lt (x.above y c (PySem.mem_of_lookup h))
  · have hi : i < vs.length := by
      unfold start at h2
      by_cases hi : i < vs.length
      · exact hi
      · rw [List.getElem?_append_right (by simpa using hi)] at h2
        rw [List.getElem?_replicate] at h2
        split at h2 <;> cases h2
    have ha : vs[i]? = some v := by
      unfold start at h2
      rw [List.getElem?_append_left (by simpa using hi), List.getElem?_map] at h2
      cases e : vs[i]? with
      | none => rw [e] at h2; cases h2
      | some a => rw [e] at h2; cases h2; rfl
    obtain ⟨u, hu, rv⟩ := r.get ha
    have hp : ps[i]? = some y := by
      rw [← S.pre, List.getElem?_take_of_lt (by omega)]; exact h1
    have ndP : ps.Nodup := by rw [← S.pre]; exact S.nd.sublist (List.take_sublist _ _)
    refine ⟨u, rv, ?_⟩
    rcases S.par y (List.mem_of_getElem? hp) with k | k
    · exact .inl ⟨k, bindL_get ndP hp hu k⟩
    · obtain ⟨c, e⟩ := cell_has (n := s.heap.objs.size + 1) k
      refine .inr ⟨.inl k, c, e, ?_⟩
      have q := x.cell y c e
      rw [bindC_get ndP hp hu (by show scope.names.lookup y ≠ _; rw [k]; decide)] at q
      exact q
  · exact e0.hok.fresh (Nat.le_of_lt (x.above y c (PySem.mem_of_lookup h)))
  · unfold start
    show _ = N.length
    rw [List.length_append, List.length_map, List.length_replicate]
    omega
theorem fn_of {CX : CXT} {P : Program} {w : World} {K : PySem.W.Frag} {mg : Str → Option Value} {base : Heap} {k : Nat} {f : Addr} {name qual : Str} {params : Arguments} {body : List Stmt} {scope : Scope} {dV kV doc pm cdv ct oc : Value} {an od : Option Addr}
    {osl : Array (Option Value)} {N ps : List Str} {sp : Sp} (lk : K.lookup f = some ⟨oc, od, .func (PySem.W.fnOf name qual params body scope dV kV doc pm an cdv ct), osl⟩) (hcd : PySem.W.codeIn K cdv qual = true) (S : FnScope N ps scope)
    (len : ∀ vs H Q E, sp vs H Q E → vs.length = ps.length)
    (hbody : ∀ (A : Around) (outer : List Env) (s : Shared) (H : Hp) (vs : List V) (Q : VK) (E : XK), Room k (A.deeper (envOfC qual scope s.heap.objs.size f cdv)) → sp vs H Q E →
      ∃ t, PSs (cxOf CX P w K mg base N qual scope f cdv A outer s H E) body t ∧ t { nx := fun _ H' => Q .non H', rt := Q } (start N vs) H) :
    FnOk P w K mg base CX (k + 1) f (PySem.W.fnOf name qual params body scope dV kV doc pm an cdv ct) ps sp := by
  refine ⟨len, fun A outer s H args us vs Q E hr e0 hb r hsp => ?_⟩
  have hl := len _ _ _ _ hsp
  have KX : K.In s.heap := e0.mod.kin.keeps fun b o e => (e0.bs b o e).1
  have lim : s.heap.NoLimit := e0.mod.nolimit.keeps fun b o e => (e0.bs b o e).1
  have hkind : ∀ y ∈ ps.zip us, scope.names.lookup y.1 = some .local ∨ (scope.names.lookup y.1 = some .cell ∧ ((cellsFrom (s.heap.objs.size + 1) scope.names []).lookup y.1).isSome = true) := fun ⟨n, v⟩ hy => by
    rcases S.par n (List.of_mem_zip hy).1 with q | q
    · exact .inl q
    · exact .inr ⟨q, PySem.W.cellsFrom_some _ _ _ (.inl q)⟩
  refine codeAny_call_function hr.depth (KX _ _ lk) rfl S.co S.gen rfl (PySem.W.codeRec_of KX hcd) (hb _ _ _ _ ?_)
  refine wpAny_newFunctionEnv_cells S.kind hkind fun env he s1 x => ?_
  subst he
  refine ⟨lim.keeps x.toInCall.keep, codeAny_func ?_⟩
  obtain ⟨t, ht, hq⟩ := hbody A outer s H vs Q E (hr.deeper _) hsp
  have I : Inv (cxOf CX P w K mg base N qual scope f cdv A outer s H E) [] (start N vs) H s1 := inv_start S e0 hl r x
  refine wpAny_mono (ht [] s1 (start N vs) H _ I hq) (fun fl s' hs => ?_) fun e s' hs => hs
  have fin : ∀ {σ' : St} {H' : Hp} {v : V} {u : Value}, Inv (cxOf CX P w K mg base N qual scope f cdv A outer s H E) [] σ' H' s' → RelV v u → Q v H' → CE outer P w H s Q u s' :=
    fun {σ' H' v u} J rv q => ⟨v, H', J.os, J.bare, J.base, J.hok, rv, q⟩
  cases fl with
  | ret u =>
    obtain ⟨v, σ', H', J, rv, q⟩ := hs
    exact fin J rv q
  | next =>
    obtain ⟨σ', H', J, q⟩ := hs
    exact fin (v := V.non) (u := Value.none) J rfl q
  | brk =>
    obtain ⟨_, _, _, q⟩ := hs
    exact False.elim q
  | cont =>
    obtain ⟨_, _, _, q⟩ := hs
    exact False.elim q
end L2
namespace L2
open PySem PySem.Spec PyProof.Rows
section
variable {X : Cx} {x : Str} {p pos : Pos} {e : Expr} {es : List Expr} {t : TA} {id T : String} {r : List V → Hp → VK → Prop}
def tCB (r : List V → Hp → VK → Prop) (t : TA) : TE := fun σ H Q => t σ H fun vs H1 => r vs H1 Q
theorem pe_callB (hc : CallR X (.builtin id) r) (hg : Gl X x) (hm : X.mg x = none) (hv : bootBuiltins x = some (.builtin id)) (ha : PA X (e :: es) t) (hn : x ≠ "__name__" := by decide) (hdb : (x == ("__debug__" : Str)) = false := by decide)
    (he : starEach (e :: es) X.env = (false, eval e X.env) :: starEach es X.env := by rfl) (hpl : (backTo pos (starEach es X.env)).any (·.1) = false := by rfl) : PE X (.Call (.Name x p) (e :: es) [] pos) (tCB r t) := by
  intro pins s σ H Q I h
  refine wpAny_Call_Name_kw (ld_blt I hg hm hv ?_ hn hdb)
  exact PyProof.Rows.callWith_builtin1 (thn (ha pos pins s σ H _ I h) fun us s1 ⟨vs, H1, I1, r1, q1⟩ => hc pins s1 σ H1 vs us Q I1 r1 q1) he hpl
theorem pe_callTy (hc : CallR X (.type T) r) (hg : Gl X x) (hm : X.mg x = none) (hv : bootBuiltins x = some (.type T)) (ha : PA X (e :: es) t) (hn : x ≠ "__name__" := by decide) (hdb : (x == ("__debug__" : Str)) = false := by decide)
    (he : starEach (e :: es) X.env = (false, eval e X.env) :: starEach es X.env := by rfl) (hpl : (backTo pos (starEach es X.env)).any (·.1) = false := by rfl) : PE X (.Call (.Name x p) (e :: es) [] pos) (tCB r t) := by
  intro pins s σ H Q I h
  refine wpAny_Call_Name_kw (ld_blt I hg hm hv ?_ hn hdb)
  exact PyProof.Rows.callWith_type1 (thn (ha pos pins s σ H _ I h) fun us s1 ⟨vs, H1, I1, r1, q1⟩ => hc pins s1 σ H1 vs us Q I1 r1 q1) he hpl
end
end L2
namespace HT
open PySem PyProof.Rows
section
open PySem.SeqAt
open PySem.AutoSeq1 (wpAny_loadPart')
open PySem.MeetsSeq PySem.MeetsSeq2 PySem.MeetsSeq3
end
section
variable {prog : Program} {w : World} {A : Around} {E : Value → Shared → Prop} {s : Shared}
theorem cat_tup {t b : Addr} {vs ws : List Value} {Q : Value → Shared → Prop} (ht : IsTup s.heap t vs.toArray) (hb : IsTup s.heap b ws.toArray) (hv : vs ≠ [])
    (h1 : ws = [] → Q (.ref t) s) (h2 : ws ≠ [] → Q (.ref s.heap.objs.size) { s with heap := s.heap.push { cls := .type "tuple", data := .seq (vs ++ ws).toArray } })
    (hsz : vs.length + ws.length ≤ sizeLine) : wpAny (model prog w) A (binaryOp .Add (.ref t) (.ref b)) Q E s := by
  obtain ⟨⟨cls, dd, data, sl⟩, ho, hc, n, hd⟩ := id ht
  obtain ⟨⟨cls2, dd2, data2, sl2⟩, ho2, hc2, n2, hd2⟩ := id hb
  simp only at hc hd hc2 hd2
  subst hc hd hc2 hd2
  have e : vs.toArray ++ ws.toArray = (vs ++ ws).toArray := by simp
  by_cases hw : ws = []
  · exact concat_meets ⟨_, ho, rfl⟩ ⟨_, ho2, rfl⟩ noFill_tuple_add seq_tuple_add PySem.F.slot_tuple_add PySem.F.entry_tuple_add (PySem.F.args_tuple_add_2 _ _)
      (tuple_addW1 t b vs.toArray ws.toArray n n2 dd dd2 sl sl2 (by simpa using hv) (by simp [hw])) ⟨ho, ho2, h1 hw⟩
  · refine concat_meets ⟨_, ho, rfl⟩ ⟨_, ho2, rfl⟩ noFill_tuple_add seq_tuple_add PySem.F.slot_tuple_add PySem.F.entry_tuple_add (PySem.F.args_tuple_add_2 _ _)
      (tuple_addW2 t b vs.toArray ws.toArray n n2 dd dd2 sl sl2 (by simpa using hv) (by simpa using hw) (by rw [List.size_toArray, List.size_toArray]; exact hsz)) ⟨ho, ho2, ?_⟩
    rw [e]
    exact h2 hw
def sIx (n d : Nat) : Option Int → Nat
  | none => d
  | some v => if v < 0 then (v + (n : Int)).toNat else min v.toNat n
theorem sIx_none (n d : Nat) : sIx n d none = d := rfl
theorem sIx_nat (n d k : Nat) : sIx n d (some (k : Int)) = min k n := by
  show (if (k : Int) < 0 then ((k : Int) + (n : Int)).toNat else min (k : Int).toNat n) = min k n
  rw [if_neg (by omega), Int.toNat_natCast]
theorem sIx_le (n d : Nat) (hd : d ≤ n) (o : Option Int) : sIx n d o ≤ n := by
  cases o with
  | none => exact hd
  | some v =>
    show (if v < 0 then (v + (n : Int)).toNat else min v.toNat n) ≤ n
    by_cases hv : v < 0
    · rw [if_pos hv]; omega
    · rw [if_neg hv]; exact Nat.min_le_right _ _
theorem clip_eq (v : Int) (n d : Nat) : (if v < 0 then max (v + (n : Int)) 0 else min v (n : Int)) = ((sIx n d (some v) : Nat) : Int) := by
  show (if v < 0 then max (v + (n : Int)) 0 else min v (n : Int)) = (((if v < 0 then (v + (n : Int)).toNat else min v.toNat n) : Nat) : Int)
  by_cases hv : v < 0
  · simp only [if_pos hv]; omega
  · simp only [if_neg hv]; omega
theorem adjust_gen (lo hi : Option Int) (n : Nat) : Builtin.Slice.sliceAdjust lo hi 1 (n : Int) = (((sIx n 0 lo : Nat) : Int), ((sIx n n hi : Nat) : Int)) := by
  have h1 : ¬ ((1 : Int) < 0) := by omega
  unfold Builtin.Slice.sliceAdjust
  simp only [h1, if_false]
  refine Prod.ext ?_ ?_
  · cases lo with
    | none => rfl
    | some v => exact clip_eq v n 0
  · cases hi with
    | none => rfl
    | some v => exact clip_eq v n n
theorem places_gen (i j : Nat) : Builtin.Slice.slicePlaces (i : Int) (j : Int) 1 = j - i := by
  unfold Builtin.Slice.slicePlaces
  have h1 : (1 : Int) > 0 := by omega
  simp only [h1, if_true, Int.ediv_one]
  split <;> omega
theorem slicePart_ {v : Value} {o : Option Int} {Q : Option Int → Shared → Prop} (p : IsPart v o) (h : Q o s) : wpAny (model prog w) A (Builtin.Slice.slicePartIndex v) Q E s := by
  cases p with
  | none => exact slicePart_none h
  | int i t => exact slicePart_int h
theorem sliceApplied_gen {sl : Addr} {vl vu : Value} {lo hi : Option Int} {n : Nat} {Q : Int × Int × Nat → Shared → Prop} (hs : s.heap.IsSliceOf sl vl vu .none) (pl : IsPart vl lo) (pu : IsPart vu hi)
    (h : Q (((sIx n 0 lo : Nat) : Int), 1, sIx n n hi - sIx n 0 lo) s) : wpAny (model prog w) A (Builtin.Slice.sliceApplied (.ref sl) (pure (n : Int))) Q E s := by
  obtain ⟨os, hos, hcs, hds⟩ := id hs
  unfold Builtin.Slice.sliceApplied Builtin.Slice.sliceFields
  refine wpAny_bind (wpAny_bind (wpAny_field hos hds (x := vl) rfl (wpAny_bind (wpAny_field hos hds (x := vu) rfl (wpAny_bind (wpAny_field hos hds (x := .none) rfl (wpAny_pure ?_)))))))
  refine wpAny_bind (slicePart_none ?_)
  show wpAny _ _ (if ((1 : Int) == 0) = true then _ else _) _ _ s
  rw [if_neg (by decide)]
  refine wpAny_bind (slicePart_ pl (wpAny_bind (slicePart_ pu (wpAny_bind (wpAny_pure ?_)))))
  show wpAny _ _ (match Builtin.Slice.sliceAdjust lo hi 1 (n : Int) with | (lo, hi) => pure (lo, (1 : Int), Builtin.Slice.slicePlaces lo hi 1)) _ _ s
  rw [adjust_gen lo hi n]
  show wpAny _ _ (pure (((sIx n 0 lo : Nat) : Int), (1 : Int), Builtin.Slice.slicePlaces ((sIx n 0 lo : Nat) : Int) ((sIx n n hi : Nat) : Int) 1)) _ _ s
  rw [places_gen]
  exact wpAny_pure h
theorem pick_gen (xs : Array Value) (i k : Nat) : ((List.range k).filterMap fun (m : Nat) => xs[((i : Int) + (m : Int) * 1).toNat]?).toArray = ((xs.toList.drop i).take k).toArray := by
  have e : (fun (m : Nat) => xs[((i : Int) + (m : Int) * 1).toNat]?) = fun m => xs[i + m]? := by
    funext m
    have : ((i : Int) + (m : Int) * 1).toNat = i + m := by omega
    rw [this]
  rw [e]
  have := pick_run xs i k
  rw [List.filterMap_map] at this
  have e2 : ((fun x => xs[x]?) ∘ fun x => i + x) = fun m => xs[i + m]? := rfl
  rw [e2] at this
  rw [this]
theorem getItem_tuple_cut {t sl : Addr} {items : Array Value} {vl vu : Value} {lo hi : Option Int} {Q : Value → Shared → Prop} (ht : IsTup s.heap t items) (hs : s.heap.IsSliceOf sl vl vu .none) (pl : IsPart vl lo) (pu : IsPart vu hi)
    (hw : ¬ (sIx items.size 0 lo = 0 ∧ sIx items.size items.size hi = items.size))
    (h : Q (.ref s.heap.objs.size) { s with heap := s.heap.push { cls := .type "tuple", data := .seq ((items.toList.drop (sIx items.size 0 lo)).take (sIx items.size items.size hi - sIx items.size 0 lo)).toArray } })
    (hsz : items.size ≤ sizeLine) : wpAny (model prog w) A (getItem (.ref t) (.ref sl)) Q E s := by
  have htake : sizeOk (.seq ((items.toList.drop (sIx items.size 0 lo)).take (sIx items.size items.size hi - sIx items.size 0 lo)).toArray) := by
    show ((items.toList.drop (sIx items.size 0 lo)).take (sIx items.size items.size hi - sIx items.size 0 lo)).toArray.size ≤ sizeLine
    rw [List.size_toArray, List.length_take, List.length_drop, Array.length_toList]
    omega
  have hj : sIx items.size items.size hi ≤ items.size := sIx_le _ _ (Nat.le_refl _) hi
  obtain ⟨os, hos, hcs, hds⟩ := id hs
  have hTs : s.TypeIs (.ref sl) "slice" := ⟨os, hos, hcs⟩
  unfold getItem
  try with_reducible refine wpAny_holding ?_
  first | refine wpAny_bind (wpAny_pure ?_) | skip
  refine wpAny_bind (wpAny_sequenceKey ht.typeIs (by decide) ?_)
  refine wpAny_bind (wpAny_callSpecial?_slot (name := Str.ofString "__getitem__") ht.typeIs PyProof.Rows.slot_tuple_getitem
    (wpAny_call_entry PyProof.Rows.slot_tuple_getitem ht.typeIs entry_tuple_getitem ?_ (args_tuple_getitem _ _)))
  show wpAny _ _ (Builtin.Tuple.tupleItemsOf (.ref t) >>= _) _ _ s
  refine wpAny_bind (tupleItemsOf_ ht ?_)
  refine wpAny_bind (wpAny_typeOf hTs ?_)
  rw [if_pos (by decide)]
  refine wpAny_bind (sliceApplied_gen hs pl pu ?_)
  have hno : ¬ ((((sIx items.size 0 lo : Nat) : Int) == 0 && (1 : Int) == 1 && (sIx items.size items.size hi - sIx items.size 0 lo) == items.size) = true) := by
    intro q
    rw [Bool.and_eq_true, Bool.and_eq_true] at q
    have q1 : ((sIx items.size 0 lo : Nat) : Int) = 0 := eq_of_beq q.1.1
    have q2 : sIx items.size items.size hi - sIx items.size 0 lo = items.size := eq_of_beq q.2
    exact hw ⟨by omega, by omega⟩
  show wpAny _ _ (if (((sIx items.size 0 lo : Nat) : Int) == 0 && (1 : Int) == 1 && (sIx items.size items.size hi - sIx items.size 0 lo) == items.size) = true then _ else _) _ _ s
  rw [if_neg hno, pick_gen]
  first
    | exact wpAny_bind (m := Builtin.Tuple.tupleExact _) (wpAny_newObj_type (wpAny_pure ⟨_, rfl, wpAny_pure h⟩) htake)
    | exact wpAny_bind (m := Builtin.Tuple.tupleExact _) (wpAny_newObj_type (wpAny_bind (wpAny_pure (wpAny_pure ⟨_, rfl, wpAny_pure h⟩))) htake)
    | exact wpAny_bind (wpAny_bind (m := Builtin.Tuple.tupleExact _) (wpAny_newObj_type (wpAny_pure (wpAny_pure ⟨_, rfl, wpAny_pure h⟩)) htake))
    | exact wpAny_bind (wpAny_bind (m := Builtin.Tuple.tupleExact _) (wpAny_newObj_type (wpAny_pure ⟨_, rfl, wpAny_pure h⟩) htake))
end
end HT
namespace L2
open PySem PySem.Spec PyProof.Rows
abbrev TO := St → Hp → (Option Int → Hp → Prop) → Prop
def PO (X : Cx) (e : Option Expr) (t : TO) : Prop :=
  ∀ (pins : List (Addr × Obj)) (s : Shared) (σ : St) (H : Hp) (Q : Option Int → Hp → Prop), Inv X pins σ H s → t σ H Q →
    wpAny (model X.prog X.w) X.A (evalPart e X.env) (fun u s' => ∃ o H', Inv X pins σ H' s' ∧ IsPart u o ∧ Q o H') X.xe s
def tNoPart : TO := fun _ H Q => Q none H
def tPart (t : TE) : TO := fun σ H Q => t σ H fun x H1 => ∃ i, x = .int i ∧ Q (some i) H1
section
variable {X : Cx} {e : Expr} {te : TE} {lo hi : Option Expr} {tl th : TO} {pos p2 : Pos}
theorem po_none : PO X none tNoPart := by
  intro pins s σ H Q I h
  rw [evalPart_none]
  exact wpAny_pure ⟨none, H, I, .none, h⟩
theorem po_some (h : PE X e te) : PO X (some e) (tPart te) := by
  intro pins s σ H Q I hw
  rw [evalPart_some]
  refine thn (h pins s σ H _ I hw) fun u s1 ⟨x, H1, I1, r1, q1⟩ => ?_
  obtain ⟨i, rfl, q⟩ := q1
  obtain ⟨t, rfl⟩ := r1
  exact ⟨some i, H1, I1, .int i t, q⟩
def SlR (X : Cx) (r : V → Option Int → Option Int → Hp → VK → Prop) : Prop :=
  ∀ (pins : List (Addr × Obj)) (s : Shared) (σ : St) (H : Hp) (x : V) (v vl vu : Value) (lo hi : Option Int) (sl : Addr) (Q : VK), Inv X pins σ H s → RelV x v → s.heap.IsSliceOf sl vl vu .none → IsPart vl lo → IsPart vu hi → r x lo hi H Q →
    ∃ T id, typeLookup (.type T) "__getitem__" = pure (some (.builtin id)) ∧ s.TypeIs v T ∧ wpAny (model X.prog X.w) X.A (getItem v (.ref sl)) (EP X pins σ Q) X.xe s
def tSl (r : V → Option Int → Option Int → Hp → VK → Prop) (te : TE) (tl th : TO) : TE := fun σ H Q => te σ H fun x H1 => tl σ H1 fun l H2 => th σ H2 fun u H3 => r x l u H3 Q
theorem pe_slice {r : V → Option Int → Option Int → Hp → VK → Prop} (hr : SlR X r) (he : PE X e te) (hl : PO X lo tl) (hu : PO X hi th) : PE X (.Subscript e (.Slice lo hi none p2) pos) (tSl r te tl th) := by
  intro pins s σ H Q I h
  refine Subscript_ (thn (he pins s σ H _ I h) fun v s1 ⟨x, H1, I1, r1, q1⟩ => ?_)
  refine wpAny_Slice (thn (hl pins s1 σ H1 _ I1 q1) fun vl s2 ⟨l, H2, I2, pl, q2⟩ => thn (hu pins s2 σ H2 _ I2 q2) fun vu s3 ⟨u, H3, I3, pu, q3⟩ => ?_)
  rw [evalPart_none]
  refine wpAny_pure ?_
  have I4 : Inv X pins σ H3 { s3 with heap := s3.heap.push { cls := .type "slice", data := .fields #[vl, vu, .none] } } := I3.kept (t' := s3.toks) fun b ob q => Heap.get?_push_of_some _ q
  obtain ⟨T, id, hT, ht, hg⟩ := hr pins { s3 with heap := s3.heap.push { cls := .type "slice", data := .fields #[vl, vu, .none] } } σ H3 x v vl vu l u s3.heap.objs.size Q I4 r1 (Heap.IsSliceOf.new ..) pl pu q3
  show wpAny (model X.prog X.w) X.A (subscriptTail e (.Slice lo hi none p2) v (.ref s3.heap.objs.size)) (EP X pins σ Q) X.xe { s3 with heap := s3.heap.push { cls := .type "slice", data := .fields #[vl, vu, .none] } }
  exact tail_any (ops := [.ref s3.heap.objs.size, v]) ht hT hg (by with_unfolding_all rfl)
def cutV (xs : List V) (lo hi : Option Int) : List V := (xs.drop (HT.sIx xs.length 0 lo)).take (HT.sIx xs.length xs.length hi - HT.sIx xs.length 0 lo)
theorem cutV_length (xs : List V) (lo hi : Option Int) : (cutV xs lo hi).length ≤ xs.length := by
  unfold cutV
  rw [List.length_take, List.length_drop]
  omega
def rSlT (K : PySem.W.Frag) : V → Option Int → Option Int → Hp → VK → Prop := fun x lo hi H Q => ∃ a xs, x = .ref a ∧ SqT K H a xs ∧
  ¬ (HT.sIx xs.length 0 lo = 0 ∧ HT.sIx xs.length xs.length hi = xs.length) ∧ ∀ p, H p = none → Q (.ref p) (upd H p (.tup (cutV xs lo hi)))
theorem sl_tup : SlR X (rSlT X.K) := by
  intro pins s σ H x v vl vu lo hi sl Q I rx hs pl pu h
  obtain ⟨a, xs, rfl, hx, hw, q⟩ := h
  cases rx
  obtain ⟨its, r, ht, hz⟩ := I.tuple hx
  have hlen : its.toArray.size = xs.length := by rw [List.size_toArray]; exact r.length.symm
  refine ⟨"tuple", _, PyProof.Rows.slot_tuple_getitem.lookup, ht.typeIs, ?_⟩
  refine HT.getItem_tuple_cut ht hs pl pu (by rw [hlen]; exact hw) ?_ (by rw [hlen]; exact hz)
  rw [hlen]
  refine ⟨.ref s.heap.objs.size, _, I.laid (t' := s.toks) (o := .tup (cutV xs lo hi)) (fun b ob q => Heap.get?_push_of_some _ q) (Nat.le_refl _) ?_, rfl, q _ (I.hok.fresh (Nat.le_refl _))⟩
  exact ⟨Nat.le_trans (cutV_length xs lo hi) hz, _, (r.drop (HT.sIx xs.length 0 lo)).take (HT.sIx xs.length xs.length hi - HT.sIx xs.length 0 lo), IsTup.new _ _⟩
def rCatT (K : PySem.W.Frag) : R2 := fun x y H Q => ∃ a b xs ys, x = .ref a ∧ y = .ref b ∧ SqT K H a xs ∧ SqT K H b ys ∧ xs ≠ [] ∧ xs.length + ys.length ≤ sizeLine ∧
  (ys = [] → Q (.ref a) H) ∧ (ys ≠ [] → ∀ p, H p = none → Q (.ref p) (upd H p (.tup (xs ++ ys))))
theorem Vals.nil_iff {xs : List V} {us : List Value} (r : Vals xs us) : us = [] ↔ xs = [] := by
  cases r with
  | nil => simp
  | cons _ _ => simp
theorem op_catT : OpR X (binaryOp .Add) (rCatT X.K) := by
  intro pins s σ H x y v u Q I rx ry h
  obtain ⟨a, b, xs, ys, rfl, rfl, ha, hb, hx, hz, q1, q2⟩ := h
  cases rx
  cases ry
  obtain ⟨its, r1, p1, _⟩ := I.tuple ha
  obtain ⟨its2, r2, p2, _⟩ := I.tuple hb
  refine HT.cat_tup p1 p2 (fun z => hx (r1.nil_iff.mp z)) (fun z => ⟨.ref a, H, I, rfl, q1 (r2.nil_iff.mp z)⟩) (fun z => ?_) (by rw [← r1.length, ← r2.length]; exact hz)
  refine ⟨.ref s.heap.objs.size, _, I.laid (t' := s.toks) (o := .tup (xs ++ ys)) (fun b ob q => Heap.get?_push_of_some _ q) (Nat.le_refl _) ?_, rfl, q2 (fun w => z (r2.nil_iff.mpr w)) _ (I.hok.fresh (Nat.le_refl _))⟩
  exact ⟨by rw [List.length_append]; exact hz, _, r1.append r2, IsTup.new _ _⟩
end
end L2
namespace L2
open PySem PySem.Spec PyProof.Rows
def ixN (n : Nat) (i : Int) : Option Nat := if 0 ≤ i then (if i < n then some i.toNat else none) else if -(n : Int) ≤ i then some (i + n).toNat else none
def atI {α : Type} (xs : List α) (i : Int) : Option α := (ixN xs.length i).bind fun j => xs[j]?
theorem ixN_seq {n : Nat} {i : Int} {j : Nat} (h : ixN n i = some j) : seqIndex? i n = some j ∧ j < n ∧ -(n : Int) ≤ i ∧ i < n := by
  unfold ixN at h
  by_cases h0 : 0 ≤ i
  · rw [if_pos h0] at h
    by_cases h1 : i < n
    · rw [if_pos h1] at h
      have e : i.toNat = j := Option.some.inj h
      exact ⟨by rw [seqIndex_of h0 h1, e], by omega, by omega, h1⟩
    · rw [if_neg h1] at h; cases h
  · rw [if_neg h0] at h
    by_cases h1 : -(n : Int) ≤ i
    · rw [if_pos h1] at h
      have e : (i + n).toNat = j := Option.some.inj h
      exact ⟨by rw [seqIndex_neg (by omega) h1, e], by omega, h1, by omega⟩
    · rw [if_neg h1] at h; cases h
theorem atI_get {α : Type} {xs : List α} {i : Int} {v : α} (h : atI xs i = some v) : ∃ j, seqIndex? i xs.length = some j ∧ xs[j]? = some v ∧ j < xs.length ∧ -(xs.length : Int) ≤ i ∧ i < xs.length := by
  unfold atI at h
  cases e : ixN xs.length i with
  | none => rw [e] at h; cases h
  | some j =>
    rw [e] at h
    obtain ⟨h1, h2, h3, h4⟩ := ixN_seq e
    exact ⟨j, h1, h, h2, h3, h4⟩
theorem atI_nat {α : Type} {xs : List α} {j : Nat} {v : α} (h : xs[j]? = some v) : atI xs (j : Int) = some v := by
  have hj : j < xs.length := (List.getElem?_eq_some_iff.mp h).1
  have e : ixN xs.length (j : Int) = some j := by
    unfold ixN
    rw [if_pos (by omega), if_pos (by omega)]; simp
  unfold atI; rw [e]; exact h
def PlainIx (b : Expr) : Prop := ∀ o i, subscripted b false o i = operate [o, i] (getItem o i)
def IxR (X : Cx) (r : R2) : Prop :=
  ∀ (value slice : Expr) (pins : List (Addr × Obj)) (s : Shared) (σ : St) (H : Hp) (x y : V) (v u : Value) (Q : VK), Inv X pins σ H s → RelV x v → RelV y u → r x y H Q →
    subscripted slice false v u = operate [v, u] (getItem v u) → wpAny (model X.prog X.w) X.A (subscriptTail value slice v u) (EP X pins σ Q) X.xe s
def MtR (X : Cx) (id : String) (r : V → List V → Hp → VK → Prop) : Prop :=
  ∀ (pins : List (Addr × Obj)) (s : Shared) (σ : St) (H : Hp) (x : V) (xs : List V) (v : Value) (us : List Value) (Q : VK), Inv X pins σ H s → RelV x v → Vals xs us → r x xs H Q →
    wpAny (model X.prog X.w) X.A (call (.builtin id) (v :: us)) (EP X pins σ Q) X.xe s
section
variable {X : Cx} {a b : Expr} {ta tb : TE} {pos : Pos}
theorem pe_ix {r : R2} (hr : IxR X r) (ha : PE X a ta) (hb : PE X b tb) (hs : PlainIx b) : PE X (.Subscript a b pos) (tOp r ta tb) := by
  intro pins s σ H Q I h
  exact Subscript_ (binT ha hb I h fun v u s2 x y H2 I2 rx ry q => hr a b pins s2 σ H2 x y v u Q I2 rx ry q (hs _ _))
def rIxL (K : PySem.W.Frag) : R2 := fun x y H Q => ∃ p xs i v, x = .ref p ∧ y = .int i ∧ SqL K H p xs ∧ atI xs i = some v ∧ Q v H
def rIxT (K : PySem.W.Frag) : R2 := fun x y H Q => ∃ p xs i v, x = .ref p ∧ y = .int i ∧ SqT K H p xs ∧ atI xs i = some v ∧ Q v H
def rIxS : R2 := fun x y H Q => ∃ z i c, x = .str z ∧ y = .int i ∧ z.length ≤ sizeLine ∧ atI z.cps.toList i = some c ∧ Q (.str ⟨#[c]⟩) H
theorem ix_list : IxR X (rIxL X.K) := by
  intro value slice pins s σ H x y v u Q I rx ry h hs
  obtain ⟨p, xs, i, z, rfl, rfl, hq, he, q⟩ := h
  cases rx
  obtain ⟨t, rfl⟩ := ry
  obtain ⟨its, r, pl, hz⟩ := I.list hq
  obtain ⟨j, h1, h2, h3, h4, h5⟩ := atI_get he
  obtain ⟨w, ew, rw'⟩ := r.get h2
  have hl := r.length
  have hn := line63
  have fin : EP X pins σ Q w s := ⟨z, H, I, rw', q⟩
  by_cases h0 : 0 ≤ i
  · have hj : i.toNat = j := by
      rw [seqIndex_of h0 h5] at h1
      exact Option.some.inj h1
    exact item_listR pl.isList h0 (by omega) (by rw [hj]; simpa using ew) fin hs
  · have hj : (i + (its.toArray.size : Int)).toNat = j := by
      rw [seqIndex_neg (by omega) h4] at h1
      rw [List.size_toArray, ← hl]
      exact Option.some.inj h1
    exact subscriptTail_builtinR (x := w) pl.isList.typeIs slot_list_getitem.lookup
      (wpAny_getItem_list_neg (Q := fun r s' => r = w ∧ EP X pins σ Q r s') pl.isList (by omega) (by rw [List.size_toArray] <;> omega) (by omega) (by rw [hj]; simpa using ew) ⟨rfl, fin⟩) hs
theorem ix_tup : IxR X (rIxT X.K) := by
  intro value slice pins s σ H x y v u Q I rx ry h hs
  obtain ⟨p, xs, i, z, rfl, rfl, hq, he, q⟩ := h
  cases rx
  obtain ⟨t, rfl⟩ := ry
  obtain ⟨its, r, pl, hz⟩ := I.tuple hq
  obtain ⟨j, h1, h2, h3, h4, h5⟩ := atI_get he
  obtain ⟨w, ew, rw'⟩ := r.get h2
  have hl := r.length
  have hn := line63
  have fin : EP X pins σ Q w s := ⟨z, H, I, rw', q⟩
  exact subscriptTail_builtinR (x := w) pl.typeIs slot_tuple_getitem.lookup
    (getItem_tuple (j := j) (Q := fun r s' => r = w ∧ EP X pins σ Q r s') pl (by omega) (by omega) (by rw [List.size_toArray, ← hl]; exact h1) (by simpa using ew) ⟨rfl, fin⟩) hs
theorem ix_str : IxR X rIxS := by
  intro value slice pins s σ H x y v u Q I rx ry h hs
  obtain ⟨z, i, c, rfl, rfl, hz, he, q⟩ := h
  obtain ⟨t, rfl⟩ := rx
  obtain ⟨t', rfl⟩ := ry
  obtain ⟨j, h1, h2, h3, h4, h5⟩ := atI_get he
  have hl : z.cps.toList.length = z.length := by simp [Str.length]
  rw [hl] at h1 h4 h5
  have hn := line63
  exact tail_any (typeIs_str s z t) slot_str_getitem.lookup (getItem_str (c := c) (by
    have e1 : decide (i < -(2 ^ 63 : Int)) = false := decide_eq_false (by omega)
    have e2 : decide (i ≥ 2 ^ 63) = false := decide_eq_false (by omega)
    rw [e1, e2, Bool.or_false]) (by rw [h1]; simpa using h2) ⟨.str ⟨#[c]⟩, H, I.tok _, ⟨_, rfl⟩, q⟩) hs
theorem mapSeq_set (its : List Value) (n j : Nat) (u : Value) : Obj.mapSeq (·.setIfInBounds j u) { cls := .type "list", data := .seq its.toArray n } = { cls := .type "list", data := .seq (its.set j u).toArray n } := by
  simp [Obj.mapSeq]
theorem Inv.lst {pins : List (Addr × Obj)} {σ : St} {H : Hp} {s : Shared} {p : Addr} {xs : List V} (I : Inv X pins σ H s) (h : H p = some (.lst xs)) :
    ∃ (its : List Value) (n : Nat), Vals xs its ∧ s.heap.get? p = some { cls := .type "list", data := .seq its.toArray n } ∧ xs.length ≤ sizeLine := by
  obtain ⟨z, its, n, r, e⟩ := I.hok p _ h
  exact ⟨its, n, r, e, z⟩
theorem Inv.lstUpd {pins : List (Addr × Obj)} {σ : St} {H : Hp} {s : Shared} {p : Addr} {xs ys : List V} {its its' : List Value} {n n' : Nat} {f : Obj → Obj} (I : Inv X pins σ H s) (h : H p = some (.lst xs))
    (ho : s.heap.get? p = some { cls := .type "list", data := .seq its.toArray n }) (hf : f { cls := .type "list", data := .seq its.toArray n } = { cls := .type "list", data := .seq its'.toArray n' }) (r : Vals ys its') (hz : ys.length ≤ sizeLine) (t : Nat) :
    Inv X pins σ (upd H p (.lst ys)) { s with heap := s.heap.update p f, toks := t } := by
  have e : (s.heap.update p f).get? p = some { cls := .type "list", data := .seq its'.toArray n' } := by
    rw [Heap.get?_update_self f ho (by rw [hf] <;> rfl), hf]
  refine I.write (x := p) (e := p) (by rw [h]; trivial) (.inl rfl) (fun b u hb q => (Heap.get?_update_other _ _ (Ne.symm hb)).trans q) ⟨_, e⟩ ?_
  exact ⟨hz, its', n', r, e⟩
def rSetL : V → V → V → Hp → (Hp → Prop) → Prop := fun o i v H Q => ∃ p xs k j, o = .ref p ∧ i = .int k ∧ H p = some (.lst xs) ∧ ixN xs.length k = some j ∧ Q (upd H p (.lst (xs.set j v)))
theorem set_list : PSet X rSetL := by
  intro pins s σ H o i v ov iv u Q I ro ri rv h
  obtain ⟨p, xs, k, j, rfl, rfl, hp, hj, q⟩ := h
  cases ro
  obtain ⟨t, rfl⟩ := ri
  obtain ⟨its, n, r, ho, hz⟩ := I.lst hp
  obtain ⟨h1, h2, h3, h4⟩ := ixN_seq hj
  have hl := r.length
  have hn := line63
  have I' : Inv X pins σ (upd H p (.lst (xs.set j v))) { s with heap := s.heap.update p (Obj.mapSeq (·.setIfInBounds j u)) } :=
    I.lstUpd hp ho (mapSeq_set its n j u) (r.set rv j) (by rw [List.length_set]; exact hz) s.toks
  by_cases h0 : 0 ≤ k
  · have hk : k.toNat = j := by
      rw [seqIndex_of h0 h4] at h1
      exact Option.some.inj h1
    exact PySem.W.ki_setAt ho h0 (by omega) (by rw [List.size_toArray, ← hl]; exact h4) (by rw [hk]; exact ⟨_, I', q⟩)
  · have hk : (k + (its.toArray.size : Int)).toNat = j := by
      rw [seqIndex_neg (by omega) h3] at h1
      rw [List.size_toArray, ← hl]
      exact Option.some.inj h1
    exact PySem.W.ki_setBack ho (by omega) (by rw [List.size_toArray, ← hl]; exact h3) (by omega) (by rw [hk]; exact ⟨_, I', q⟩)
theorem slice_bounds (lo hi : Option Int) (n : Nat) : (sliceBounds lo hi none n).1 = ((HT.sIx n 0 lo : Nat) : Int) ∧ (sliceBounds lo hi none n).2.1 = ((HT.sIx n n hi : Nat) : Int) ∧ (sliceBounds lo hi none n).2.2 = 1 := by
  refine ⟨?_, ?_, rfl⟩
  · cases lo with
    | none => simp [sliceBounds, HT.sIx]
    | some i =>
      simp only [sliceBounds, HT.sIx, Option.getD_none, show (1 : Int) > 0 by decide, if_true]
      by_cases h : i < 0
      · simp only [h, if_true] <;> omega
      · simp only [h, if_false] <;> omega
  · cases hi with
    | none => simp [sliceBounds, HT.sIx]
    | some i =>
      simp only [sliceBounds, HT.sIx, Option.getD_none, show (1 : Int) > 0 by decide, if_true]
      by_cases h : i < 0
      · simp only [h, if_true] <;> omega
      · simp only [h, if_false] <;> omega
theorem slicePick_cut (its : List Value) (lo hi : Option Int) : slicePick its.toArray lo hi none = ((its.drop (HT.sIx its.length 0 lo)).take (HT.sIx its.length its.length hi - HT.sIx its.length 0 lo)).toArray := by
  obtain ⟨h1, h2, h3⟩ := slice_bounds lo hi its.toArray.size
  unfold slicePick
  rw [h1, h2, h3]
  simp only [sliceRange_one, pick_run, List.size_toArray] <;> rfl
def rSlL (K : PySem.W.Frag) : V → Option Int → Option Int → Hp → VK → Prop := fun x lo hi H Q => ∃ a xs, x = .ref a ∧ SqL K H a xs ∧ ∀ p, H p = none → Q (.ref p) (upd H p (.lst (cutV xs lo hi)))
theorem sl_list : SlR X (rSlL X.K) := by
  intro pins s σ H x v vl vu lo hi sl Q I rx hs pl pu h
  obtain ⟨a, xs, rfl, hx, q⟩ := h
  cases rx
  obtain ⟨its, r, ht, hz⟩ := I.list hx
  have hlen := r.length
  refine ⟨"list", _, slot_list_getitem.lookup, ht.isList.typeIs, ?_⟩
  refine wpAny_getItem_list_slice ht.isList hs pl pu .none (by simp) ?_ (by rw [List.size_toArray] <;> omega)
  rw [slicePick_cut, ← hlen]
  refine ⟨.ref s.heap.objs.size, _, I.laid (t' := s.toks) (o := .lst (cutV xs lo hi)) (fun b ob q => Heap.get?_push_of_some _ q) (Nat.le_refl _) ?_, rfl, q _ (I.hok.fresh (Nat.le_refl _))⟩
  exact ⟨Nat.le_trans (cutV_length xs lo hi) hz, _, 0, (r.drop (HT.sIx xs.length 0 lo)).take (HT.sIx xs.length xs.length hi - HT.sIx xs.length 0 lo), Heap.get?_push_size _ rfl⟩
def flatV : V → Bool
  | .non => true
  | .bl _ => true
  | .int _ => true
  | .str _ => true
  | _ => false
def eqV : V → V → Bool
  | .non, .non => true
  | .bl a, .bl b => a == b
  | .bl a, .int b => (if a then 1 else 0) == b
  | .int a, .bl b => a == (if b then 1 else 0)
  | .int a, .int b => a == b
  | .str a, .str b => a == b
  | _, _ => false
theorem eqAt_V {A : Around} {s : Shared} {y x : V} {u v : Value} (ry : RelV y u) (rx : RelV x v) (fy : flatV y = true) (fx : flatV x = true) : SeqAt.EqAt A s u v (eqV y x) := by
  cases y with
  | non =>
    cases ry
    cases x with
    | non => cases rx; exact SeqAt.EqAt.same _
    | bl b => cases rx; exact SeqAt.EqAt.none_bool b
    | int b => obtain ⟨t, rfl⟩ := rx; exact SeqAt.EqAt.none_int b t
    | str b => obtain ⟨t, rfl⟩ := rx; exact SeqAt.EqAt.none_str b t
    | _ => exact absurd (show false = true from fx) Bool.false_ne_true
  | bl a =>
    cases ry
    cases x with
    | non => cases rx; exact SeqAt.EqAt.bool_none a
    | bl b => cases rx; exact SeqAt.EqAt.bool_bool a b
    | int b => obtain ⟨t, rfl⟩ := rx; exact SeqAt.EqAt.bool_int a b t
    | str b => obtain ⟨t, rfl⟩ := rx; exact SeqAt.EqAt.bool_str a b t
    | _ => exact absurd (show false = true from fx) Bool.false_ne_true
  | int a =>
    obtain ⟨t', rfl⟩ := ry
    cases x with
    | non => cases rx; exact SeqAt.EqAt.int_none a t'
    | bl b => cases rx; exact SeqAt.EqAt.int_bool a t' b
    | int b => obtain ⟨t, rfl⟩ := rx; exact SeqAt.EqAt.int_int a t' b t
    | str b => obtain ⟨t, rfl⟩ := rx; exact SeqAt.EqAt.int_str a t' b t
    | _ => exact absurd (show false = true from fx) Bool.false_ne_true
  | str a =>
    obtain ⟨t', rfl⟩ := ry
    cases x with
    | non => cases rx; exact SeqAt.EqAt.str_none a t'
    | bl b => cases rx; exact SeqAt.EqAt.str_bool a t' b
    | int b => obtain ⟨t, rfl⟩ := rx; exact SeqAt.EqAt.str_int a t' b t
    | str b => obtain ⟨t, rfl⟩ := rx; exact SeqAt.EqAt.str_str a t' b t
    | _ => exact absurd (show false = true from fx) Bool.false_ne_true
  | _ => exact absurd (show false = true from fy) Bool.false_ne_true
def eqU (x : V) (u : Value) : Bool := match u with
  | .none => eqV .non x
  | .bool b => eqV (.bl b) x
  | .int i _ => eqV (.int i) x
  | .str z _ => eqV (.str z) x
  | _ => false
theorem eqU_of {x y : V} {u : Value} (r : RelV y u) (f : flatV y = true) : eqU x u = eqV y x := by
  cases y with
  | non => cases r; rfl
  | bl b => cases r; rfl
  | int i => obtain ⟨t, rfl⟩ := r; rfl
  | str z => obtain ⟨t, rfl⟩ := r; rfl
  | _ => exact absurd (show false = true from f) Bool.false_ne_true
theorem any_eqU {x : V} : ∀ {xs : List V} {us : List Value}, Vals xs us → xs.all flatV = true → us.any (eqU x) = xs.any fun y => eqV y x
  | _, _, .nil, _ => rfl
  | y :: xs, u :: us, .cons r t, f => by
    rw [List.all_cons, Bool.and_eq_true] at f
    rw [List.any_cons, List.any_cons, eqU_of r f.1, any_eqU t f.2]
theorem mem_eqAt {A : Around} {s : Shared} {x : V} {v : Value} (rx : RelV x v) (fx : flatV x = true) : ∀ {xs : List V} {us : List Value}, Vals xs us → xs.all flatV = true → ∀ u ∈ us, SeqAt.EqAt A s u v (eqU x u)
  | _, _, .nil, _ => fun u hu => by cases hu
  | y :: xs, u :: us, .cons r t, f => fun u' hu => by
    rw [List.all_cons, Bool.and_eq_true] at f
    rcases List.mem_cons.mp hu with rfl | hu
    · rw [eqU_of r f.1]; exact eqAt_V r rx f.1 fx
    · exact mem_eqAt rx fx t f.2 u' hu
def inV (x : V) (xs : List V) : Bool := xs.any fun y => eqV y x
def rIn (K : PySem.W.Frag) (neg : Bool) : R2 := fun x y H Q => ∃ p xs, y = .ref p ∧ (SqL K H p xs ∨ SqT K H p xs) ∧ flatV x = true ∧ xs.all flatV = true ∧ Q (.bl (if neg then !inV x xs else inV x xs)) H
theorem op_in_seq : OpR X (compareOp .In) (rIn X.K false) := by
  intro pins s σ H x y v u Q I rx ry h
  obtain ⟨p, xs, rfl, hq, fx, fs, q⟩ := h
  cases ry
  rcases hq with hq | hq
  · obtain ⟨its, r, pl, hz⟩ := I.list hq
    refine SeqAt.in_listAt (eqU x) pl.isList (fun w hw => mem_eqAt rx fx r fs w (by simpa using hw)) ⟨.bl _, H, I, rfl, ?_⟩
    rw [show its.toArray.any (eqU x) = its.any (eqU x) by simp, any_eqU r fs]
    exact q
  · obtain ⟨its, r, pl, hz⟩ := I.tuple hq
    refine SeqAt.in_tupleAt (eqU x) pl (fun w hw => mem_eqAt rx fx r fs w (by simpa using hw)) ⟨.bl _, H, I, rfl, ?_⟩
    rw [show its.toArray.any (eqU x) = its.any (eqU x) by simp, any_eqU r fs]
    exact q
theorem call_len_seq : CallR X (.builtin "len") (fun xs H Q => ∃ p ys, xs = [.ref p] ∧ (SqL X.K H p ys ∨ SqT X.K H p ys) ∧ Q (.int ys.length) H) := by
  intro pins s σ H xs us Q I r h
  obtain ⟨p, ys, rfl, hq, q⟩ := h
  obtain ⟨u, rfl, rx⟩ := vals1 r
  cases rx
  have hn := line63
  rcases hq with hq | hq
  · obtain ⟨its, r', pl, hz⟩ := I.list hq
    have hlen := r'.length
    exact Calls.call_len_list pl.isList (by simp only [List.size_toArray] <;> omega) ⟨.int ys.length, H, I.tok _, ⟨s.toks + 1, by rw [List.size_toArray, hlen]⟩, q⟩
  · obtain ⟨its, r', pl, hz⟩ := I.tuple hq
    have hlen := r'.length
    exact len_tuple pl (by simp only [List.size_toArray] <;> omega) ⟨.int ys.length, H, I.tok _, ⟨s.toks + 1, by rw [List.size_toArray, hlen]⟩, q⟩
theorem call_list_of : CallR X (.type "list") (fun xs H Q => ∃ p ys, xs = [.ref p] ∧ (SqL X.K H p ys ∨ SqT X.K H p ys) ∧ ∀ l, H l = none → Q (.ref l) (upd H l (.lst ys))) := by
  intro pins s σ H xs us Q I r h
  obtain ⟨p, ys, rfl, hq, q⟩ := h
  obtain ⟨u, rfl, rx⟩ := vals1 r
  cases rx
  have fin : ∀ (its : List Value), Vals ys its → ys.length ≤ sizeLine → ∀ (h' : Heap) (c' : Nat), (∀ b o', s.heap.get? b = some o' → h'.get? b = some o') →
      h'.get? s.heap.objs.size = some { cls := .type "list", dict := none, data := .seq its.toArray c', slots := #[] } → EP X pins σ Q (.ref s.heap.objs.size) { s with heap := h' } := fun its r' hz h' c' kp e =>
    ⟨.ref s.heap.objs.size, _, I.laid (t' := s.toks) kp (Nat.le_refl _) (show ObjOk X.prog X.w _ h' _ (.lst ys) from ⟨hz, its, c', r', e⟩), rfl, q _ (I.hok.fresh (Nat.le_refl _))⟩
  rcases hq with hq | hq
  · obtain ⟨its, r', pl, hz⟩ := I.list hq
    have hlen := r'.length
    obtain ⟨o, ho, hc, n, hd⟩ := pl.isList
    exact call_list_seq p (.inl rfl) ho hc hd (fun h' c' kp e => fin its r' hz h' c' kp e) (by simp only [List.size_toArray] <;> omega)
  · obtain ⟨its, r', pl, hz⟩ := I.tuple hq
    have hlen := r'.length
    obtain ⟨o, ho, hc, n, hd⟩ := pl
    exact call_list_seq p (.inr rfl) ho hc hd (fun h' c' kp e => fin its r' hz h' c' kp e) (by simp only [List.size_toArray] <;> omega)
def tyV (K : PySem.W.Frag) (T : String) (x : V) (H : Hp) : Prop := match x with
  | .str _ => T = "str"
  | .int _ => T = "int"
  | .ref p => (T = "list" ∧ ∃ xs, SqL K H p xs) ∨ (T = "tuple" ∧ ∃ o, K.lookup p = some o ∧ o.cls = .type "tuple" ∧ o.dict = none) ∨
      (T = "dict" ∧ ((∃ kvs, H p = some (.dK kvs)) ∨ ∃ kvs, H p = some (.dT kvs))) ∨ (T = "set" ∧ ∃ S n, H p = some (.set S n))
  | _ => False
theorem tyV_is {pins : List (Addr × Obj)} {σ : St} {H : Hp} {s : Shared} {T : String} {x : V} {v : Value} (I : Inv X pins σ H s) (r : RelV x v) (ty : tyV X.K T x H) :
    s.TypeIs v T ∧ ∀ a, v = .ref a → ∃ ob, s.heap.get? a = some ob ∧ ob.dict = none := by
  cases x with
  | str z =>
    obtain ⟨t, rfl⟩ := r
    cases (show T = "str" from ty)
    exact ⟨typeIs_str s z t, fun _ e => nomatch e⟩
  | int i =>
    obtain ⟨t, rfl⟩ := r
    cases (show T = "int" from ty)
    exact ⟨typeIs_int s i t, fun _ e => nomatch e⟩
  | ref p =>
    cases r
    rcases ty with ⟨rfl, xs, hq⟩ | ⟨rfl, o, hk, hc, hd⟩ | ⟨rfl, hk⟩ | ⟨rfl, S, n, hk⟩
    · obtain ⟨its, _, pl, _⟩ := I.list hq
      refine ⟨pl.isList.typeIs, fun a e => ?_⟩
      cases e
      obtain ⟨o, n, e, c, hd, _⟩ := pl
      exact ⟨o, e, hd⟩
    · refine ⟨⟨o, I.kIn p o hk, hc⟩, fun a e => ?_⟩
      cases e
      exact ⟨o, I.kIn _ o hk, hd⟩
    · have z : ∃ o, s.heap.get? p = some o ∧ o.ExactDict := by
        rcases hk with ⟨kvs, hk⟩ | ⟨kvs, hk⟩
        · obtain ⟨_, _, _, _, o, _, _, e, ex, _⟩ := I.hok p _ hk
          exact ⟨o, e, ex⟩
        · obtain ⟨_, _, _, _, o, _, _, e, ex, _⟩ := I.hok p _ hk
          exact ⟨o, e, ex⟩
      obtain ⟨o, e, ex⟩ := z
      refine ⟨⟨o, e, ex.1⟩, fun a e2 => ?_⟩
      cases e2
      exact ⟨o, e, ex.2.1⟩
    · obtain ⟨o, _, _, _, e, ex, _⟩ := I.hok p _ hk
      refine ⟨⟨o, e, ex.1⟩, fun a e2 => ?_⟩
      cases e2
      exact ⟨o, e, ex.2.1⟩
  | _ => exact False.elim ty
def tBM0 (K : PySem.W.Frag) (T : String) (r : V → List V → Hp → VK → Prop) (to : TE) : TE := fun σ H Q => to σ H fun x H1 => tyV K T x H1 ∧ r x [] H1 Q
def tBM (K : PySem.W.Frag) (T : String) (r : V → List V → Hp → VK → Prop) (to : TE) (t : TA) : TE := fun σ H Q => to σ H fun x H1 => tyV K T x H1 ∧ t σ H1 fun xs H2 => r x xs H2 Q
variable {o e : Expr} {es : List Expr} {to : TE} {t : TA} {name : Str} {apos cpos : Pos} {T id : String} {r : V → List V → Hp → VK → Prop}
theorem pe_bm0 (pa : PlainAttrs T) (slot : Slot T name id) (hty : typeOf (.builtin id) = pure (.type "method_descriptor")) (hm : MtR X id r) (ho : PE X o to)
    (hbase : attributeBase o name X.env (eval o X.env) = eval o X.env := by rfl) (hline : (apos.endLine == cpos.line) = true := by rfl) : PE X (.Call (.Attribute o name apos) [] [] cpos) (tBM0 X.K T r to) := by
  intro pins s σ H Q I h
  refine wpAny_Call_method0_late hbase hline (thn (ho pins s σ H _ I h) fun v s1 ⟨x, H1, I1, r1, ty, q1⟩ => ?_)
  obtain ⟨h1, h2⟩ := tyV_is I1 r1 ty
  exact ⟨T, id, pa, slot, hty, h1, h2, Calls.callWith_builtin rfl (PySem.evalArgs_none (hm pins s1 σ H1 x [] v [] Q I1 r1 .nil q1))⟩
theorem pe_bm (pa : PlainAttrs T) (slot : Slot T name id) (hty : typeOf (.builtin id) = pure (.type "method_descriptor")) (hm : MtR X id r) (ho : PE X o to) (ha : PA X (e :: es) t)
    (hbase : attributeBase o name X.env (eval o X.env) = eval o X.env := by rfl)
    (hfew : ((backTo cpos (starEach (e :: es) X.env)).all (fun x => !x.1) && (backToKw cpos (keywordEach [] X.env)).all (fun x => x.1.isSome)
      && decide ((e :: es).length + ([] : List Keyword).length + (if ([] : List Keyword).isEmpty then 0 else 1) < 30)) = true := by rfl)
    (hline : (apos.endLine == cpos.line) = true := by rfl) (hs : starEach (e :: es) X.env = (false, eval e X.env) :: starEach es X.env := by rfl) (hplain : (backTo cpos (starEach es X.env)).any (·.1) = false := by rfl) :
    PE X (.Call (.Attribute o name apos) (e :: es) [] cpos) (tBM X.K T r to t) := by
  intro pins s σ H Q I h
  refine wpAny_Call_method_late hbase hfew hline rfl (thn (ho pins s σ H _ I h) fun v s1 ⟨x, H1, I1, r1, ty, q1⟩ => ?_)
  obtain ⟨h1, h2⟩ := tyV_is I1 r1 ty
  refine ⟨T, id, pa, slot, hty, h1, h2, ?_⟩
  have hA := ha cpos pins s1 σ H1 _ I1 q1
  rw [hs] at hA ⊢
  refine Calls.callWith_builtin (by show (false || (backTo cpos (starEach es X.env)).any (·.1)) = false; rw [hplain] <;> rfl) (Calls.evalArgs_plain ?_)
  exact thn hA fun us s2 ⟨vs, H2, I2, r2, q2⟩ => hm pins s2 σ H2 x vs v us Q I2 r1 r2 q2
end
end L2
namespace L2
open PySem PySem.Spec PyProof.Rows
def MtM (X : Cx) (id : String) (r : V → List V → Hp → VK → Prop) : Prop :=
  ∀ (pins : List (Addr × Obj)) (s : Shared) (σ : St) (H : Hp) (x : V) (xs : List V) (v : Value) (us : List Value) (Q : VK), Inv X pins σ H s → RelV x v → Vals xs us → r x xs H Q →
    wpAny (model X.prog X.w) X.A (call (.builtin id) (v :: us)) (EP X pins σ Q) X.xe s
theorem Vals.one {x : V} {us : List Value} (h : Vals [x] us) : ∃ u, us = [u] ∧ RelV x u := by
  cases h with
  | cons r e =>
    cases e
    exact ⟨_, rfl, r⟩
theorem Vals.two {x y : V} {us : List Value} (h : Vals [x, y] us) : ∃ u v, us = [u, v] ∧ RelV x u ∧ RelV y v := by
  cases h with
  | cons r t =>
    cases t with
    | cons q e =>
      cases e
      exact ⟨_, _, rfl, r, q⟩
theorem Vals.zero : ∀ {us : List Value}, Vals [] us → us = []
  | _, .nil => rfl
theorem Vals.dropLast {xs : List V} {us : List Value} (h : Vals xs us) : Vals xs.dropLast us.dropLast := by
  induction h with
  | nil => exact .nil
  | cons r t ih =>
    cases t with
    | nil => exact .nil
    | cons q t' => exact .cons r ih
theorem erase_last {α : Type} (l : List α) : l.eraseIdx (l.length - 1) = l.dropLast := by
  induction l with
  | nil => rfl
  | cons a r ih =>
    cases r with
    | nil => rfl
    | cons b r =>
      have e : (a :: b :: r).length - 1 = ((b :: r).length - 1) + 1 := by
        have h1 : (a :: b :: r).length = r.length + 2 := rfl
        have h2 : (b :: r).length = r.length + 1 := rfl
        omega
      rw [e, List.eraseIdx_cons_succ, ih]
      all_goals rfl
section
variable {X : Cx} {pins : List (Addr × Obj)} {σ : St} {H : Hp} {s : Shared} {l b : Addr} {xs ys zs : List V}
theorem Inv.lset {its its' : List Value} {n : Nat} {f : Array Value → Array Value} {t' : Nat} (I : Inv X pins σ H s) (hH : H l = some (.lst xs))
    (e : s.heap.get? l = some { cls := .type "list", data := .seq its.toArray n }) (hf : f its.toArray = its'.toArray) (hv : Vals ys its') (hz : ys.length ≤ sizeLine) :
    Inv X pins σ (upd H l (.lst ys)) { s with heap := s.heap.update l (Obj.mapSeq f), toks := t' } := by
  have q := PySem.IsL.update e f
  rw [hf] at q
  refine I.write (x := l) (e := l) (by rw [hH]; exact trivial) (.inl rfl) (fun b' u hb hu => (Heap.get?_update_other s.heap (Obj.mapSeq f) (Ne.symm hb)).trans hu) ⟨_, q⟩ ?_
  exact ⟨hz, its', _, hv, q⟩
theorem Inv.lnew {its : List Value} {t' : Nat} (I : Inv X pins σ H s) (hv : Vals ys its) (hz : ys.length ≤ sizeLine) :
    Inv X pins σ (upd H s.heap.objs.size (.lst ys)) { s with heap := s.heap.push { cls := .type "list", data := .seq its.toArray }, toks := t' } :=
  I.laid (fun _ _ q => Heap.get?_push_of_some _ q) (Nat.le_refl _) ⟨hz, its, 0, hv, Heap.get?_push_size _ rfl⟩
theorem Inv.lstM (I : Inv X pins σ H s) (hH : H l = some (.lst xs)) : xs.length ≤ sizeLine ∧ ∃ (its : List Value) (n : Nat), Vals xs its ∧ xs.length = its.length ∧ s.heap.get? l = some { cls := .type "list", data := .seq its.toArray n } := by
  obtain ⟨z, its, n, r, e⟩ := I.hok l _ hH
  exact ⟨z, its, n, r, r.length, e⟩
end
section
variable {X : Cx}
def rAppend : V → List V → Hp → VK → Prop := fun x vs H Q => ∃ l xs y, x = .ref l ∧ vs = [y] ∧ H l = some (.lst xs) ∧ xs.length < sizeLine ∧ Q .non (upd H l (.lst (xs ++ [y])))
theorem mt_append : MtM X "list.append" rAppend := by
  intro pins s σ H x vs v us Q I rx rv h
  obtain ⟨l, xs, y, rfl, rfl, hH, hz, q⟩ := h
  cases rx
  obtain ⟨u, rfl, ru⟩ := rv.one
  obtain ⟨z, its, n, r, hl, e⟩ := I.lstM hH
  refine call_meets F.slot_list_append ⟨_, e, rfl⟩ F.entry_list_append (F.args_list_append_2 _ _) (PySem.list_append l its.toArray n u (by rw [List.size_toArray]; omega)) ⟨e, ?_⟩
  refine ⟨.non, _, I.lset (its' := its ++ [u]) hH e (by simp) (r.append (.cons ru .nil)) ?_, rfl, q⟩
  rw [List.length_append, List.length_singleton]
  omega
def rPop : V → List V → Hp → VK → Prop := fun x vs H Q => ∃ l xs y, x = .ref l ∧ vs = [] ∧ H l = some (.lst xs) ∧ xs[xs.length - 1]? = some y ∧ Q y (upd H l (.lst xs.dropLast))
theorem mt_pop : MtM X "list.pop" rPop := by
  intro pins s σ H x vs v us Q I rx rv h
  obtain ⟨l, xs, y, rfl, rfl, hH, hy, q⟩ := h
  cases rx
  have hus := rv.zero
  subst hus
  obtain ⟨z, its, n, r, hl, e⟩ := I.lstM hH
  obtain ⟨u, hu, ru⟩ := r.get hy
  have hy' : its.toArray[its.toArray.size - 1]? = some u := by
    show its.toArray[its.length - 1]? = some u
    rw [← Array.getElem?_toList, ← hl]
    exact hu
  refine call_meets F.slot_list_pop ⟨_, e, rfl⟩ F.entry_list_pop (F.args_list_pop_1 _) (MeetsSeq.list_pop_last l its.toArray n u hy' (by rw [List.size_toArray]; omega)) ⟨e, ?_⟩
  refine ⟨y, _, I.lset (its' := its.dropLast) hH e ?_ r.dropLast ?_, ru, q⟩
  · show its.toArray.eraseIdxIfInBounds (its.toArray.size - 1) = its.dropLast.toArray
    rw [List.size_toArray, List.eraseIdxIfInBounds_toArray, erase_last]
  · rw [List.length_dropLast]
    omega
end
section
variable {prog : Program} {w : World} {A : Around} {E : Value → Shared → Prop} {s : Shared}
end
section
variable {X : Cx}
end
end L2
namespace L2
open PySem PySem.Spec PyProof.Rows
section
variable {κ : Type} [DecidableEq κ]
def valV (kvs : List (κ × V)) (k : κ) : Option V := (kvs.find? fun kv => decide (kv.1 = k)).map (·.2)
def putK (kvs : List (κ × V)) (k : κ) (v : V) : List (κ × V) :=
  if (kvs.any fun kv => decide (kv.1 = k)) = true then kvs.map (fun kv => if kv.1 = k then (kv.1, v) else kv) else kvs ++ [(k, v)]
theorem valV_pos {p : κ × V} {r : List (κ × V)} {k : κ} (e : p.1 = k) : valV (p :: r) k = some p.2 := by simp [valV, List.find?_cons, e]
theorem valV_neg {p : κ × V} {r : List (κ × V)} {k : κ} (e : ¬ p.1 = k) : valV (p :: r) k = valV r k := by simp [valV, List.find?_cons, e]
theorem valV_any (k : κ) : ∀ kvs : List (κ × V), (kvs.any fun kv => decide (kv.1 = k)) = (valV kvs k).isSome
  | [] => rfl
  | p :: r => by
    rw [List.any_cons]
    by_cases e : p.1 = k
    · simp only [valV_pos e, decide_eq_true e, Bool.true_or, Option.isSome_some]
    · rw [valV_neg e, decide_eq_false e, Bool.false_or]; exact valV_any k r
theorem length_putK (kvs : List (κ × V)) (k : κ) (v : V) : (putK kvs k v).length ≤ kvs.length + 1 := by
  unfold putK
  split
  · rw [List.length_map]; omega
  · rw [List.length_append, List.length_cons, List.length_nil]; omega
theorem RelO.isSome_eq {o : Option V} {u : Option Value} (r : RelO o u) : o.isSome = u.isSome := by
  cases o with
  | none => cases u with
    | none => rfl
    | some _ => exact (show False from r).elim
  | some _ => cases u with
    | none => exact (show False from r).elim
    | some _ => rfl
theorem KV.val {kvs : List (κ × V)} {vs : List (κ × Value)} (r : KV kvs vs) (k : κ) : RelO (valV kvs k) (valueAt vs k) := by
  unfold KV at r
  induction r with
  | nil => exact True.intro
  | @cons p q ps qs h t ih =>
    obtain ⟨h1, h2⟩ := h
    by_cases e : p.1 = k
    · have e' : q.1 = k := h1.symm.trans e
      have b : valueAt (q :: qs) k = some q.2 := by simp [valueAt, List.find?_cons, e']
      rw [valV_pos e, b]; exact h2
    · have e' : ¬ q.1 = k := fun z => e (h1.trans z)
      have b : valueAt (q :: qs) k = valueAt qs k := by simp [valueAt, List.find?_cons, e']
      rw [valV_neg e, b]; exact ih
theorem KV.any {kvs : List (κ × V)} {vs : List (κ × Value)} (r : KV kvs vs) (k : κ) : (kvs.any fun kv => decide (kv.1 = k)) = vs.any fun kv => decide (kv.1 = k) := by
  unfold KV at r
  induction r with
  | nil => rfl
  | cons h t ih => rw [List.any_cons, List.any_cons, ih, h.1]
theorem KV.repl {kvs : List (κ × V)} {vs : List (κ × Value)} (r : KV kvs vs) (k : κ) {y : V} {u : Value} (ry : RelV y u) :
    KV (kvs.map fun kv => if kv.1 = k then (kv.1, y) else kv) (vs.map fun kv => if kv.1 = k then (kv.1, u) else kv) := by
  unfold KV at r ⊢
  induction r with
  | nil => exact .nil
  | @cons p q ps qs h t ih =>
    rw [List.map_cons, List.map_cons]
    refine .cons ?_ ih
    obtain ⟨h1, h2⟩ := h
    by_cases e : p.1 = k
    · rw [if_pos e, if_pos (h1.symm.trans e)]; exact ⟨h1, ry⟩
    · rw [if_neg e, if_neg (fun z => e (h1.trans z))]; exact ⟨h1, h2⟩
theorem KV.put {kvs : List (κ × V)} {vs : List (κ × Value)} (r : KV kvs vs) (k : κ) {y : V} {u : Value} (ry : RelV y u) : KV (putK kvs k y) (stored vs k u) := by
  unfold putK stored
  rw [r.any k]
  by_cases e : (vs.any fun kv => decide (kv.1 = k)) = true
  · rw [if_pos e, if_pos e]; exact r.repl k ry
  · rw [if_neg e, if_neg e]; exact Paired.snoc r ⟨rfl, ry⟩
end
theorem kV_is {P : Program} {w : World} {k : Key} {u : Value} (r : RelV (kV k) u) : (mixKind P w).is k u = true := by
  cases k with
  | inl i => obtain ⟨t, e⟩ := (show ∃ t, u = Value.int i t from r); subst e; exact mixKind_int P w i t
  | inr x => obtain ⟨t, e⟩ := (show ∃ t, u = Value.str x t from r); subst e; exact mixKind_str P w x t
theorem items_are {P : Program} {w : World} : ∀ {ks : List Key} {us : List Value}, Vals (ks.map kV) us → ItemsAre (mixKind P w) ks us
  | [], _, r => by rw [List.map_nil] at r; cases r; exact .nil
  | k :: ks, _, r => by
    rw [List.map_cons] at r
    cases r with
    | cons h t => exact .cons (kV_is h) (items_are t)
abbrev KT (H : Hp) : List (List Key × V) → List (List Key × Addr × Value) → Prop := Paired fun p q => p.1 = q.1 ∧ H q.2.1 = some (.tup (p.1.map kV)) ∧ RelV p.2 q.2.2
theorem KT.val {H : Hp} {kvs : List (List Key × V)} {xs : List (List Key × Addr × Value)} (r : KT H kvs xs) (k : List Key) : RelO (valV kvs k) ((atKey xs k).map (·.2)) := by
  induction r with
  | nil => exact True.intro
  | @cons p q ps qs h t ih =>
    obtain ⟨h1, _, h2⟩ := h
    by_cases e : p.1 = k
    · have e' : q.1 = k := h1.symm.trans e
      have b : atKey (q :: qs) k = some q.2 := by simp [atKey, List.find?_cons, e']
      rw [valV_pos e, b]; exact h2
    · have e' : ¬ q.1 = k := fun z => e (h1.trans z)
      have b : atKey (q :: qs) k = atKey qs k := by simp [atKey, List.find?_cons, e']
      rw [valV_neg e, b]; exact ih
section
variable {P : Program} {w : World} {H : Hp} {h : Heap} {a : Addr}
theorem rd_of {u : HO} (ok : HOk P w H h) (e : Rd H a u) : ObjOk P w H h a u := e.ok ok
theorem dk_rd {kvs : List (Key × V)} (ok : HOk P w H h) (e : Rd H a (.dK kvs)) : kvs.length ≤ sizeLine ∧ (a == sysModules) = false ∧ ∃ vs, KV kvs vs ∧ h.DictOf (mixKind P w) a vs :=
  show ObjOk P w H h a (.dK kvs) from rd_of ok e
theorem dk_of {kvs : List (Key × V)} (ok : HOk P w H h) (e : H a = some (.dK kvs)) : kvs.length ≤ sizeLine ∧ (a == sysModules) = false ∧ ∃ vs, KV kvs vs ∧ h.DictOf (mixKind P w) a vs := dk_rd ok (.inl e)
theorem key_of {ks : List Key} (ok : HOk P w H h) (e : H a = some (.tup (ks.map kV))) : (tupleKind (mixKind P w)).is h ks a := by
  obtain ⟨_, its, r, o, h1, h2, n, h3⟩ := (show ObjOk P w H h a (.tup (ks.map kV)) from ok a _ e)
  exact ⟨o, its.toArray, n, h1, h2, h3, by simpa using items_are r⟩
theorem dt_rd {kvs : List (List Key × V)} (ok : HOk P w H h) (e : Rd H a (.dT kvs)) : kvs.length ≤ sizeLine ∧ (a == sysModules) = false ∧
    ∃ xs, KT H kvs xs ∧ h.DictOfH (tupleKind (mixKind P w)) a xs := by
  obtain ⟨z, y, xs, r, o, es, ep, h1, h2, h3, h4, h5⟩ := (show ObjOk P w H h a (.dT kvs) from rd_of ok e)
  refine ⟨z, y, xs, r, o, es, ep, h1, h2, h3, h4, fun x hx => ?_, h5⟩
  have all : ∀ {l : List (List Key × V)} {m : List (List Key × Addr × Value)}, KT H l m → ∀ x ∈ m, (tupleKind (mixKind P w)).is h x.1 x.2.1 := by
    intro l m q
    induction q with
    | nil => intro x hx; exact nomatch hx
    | @cons p q ps qs hq t ih =>
      intro x hx
      rcases List.mem_cons.mp hx with e | hx
      · subst e
        exact key_of ok (by rw [← hq.1]; exact hq.2.1)
      · exact ih x hx
  exact all r x hx
end
def DGet (H : Hp) (a : Addr) (y : V) (r : Option V) : Prop :=
  (∃ kvs k, Rd H a (.dK kvs) ∧ y = kV k ∧ r = valV kvs k) ∨ ∃ kvs k b, Rd H a (.dT kvs) ∧ y = .ref b ∧ H b = some (.tup (k.map kV)) ∧ r = valV kvs k
theorem DGet.k {H : Hp} {a : Addr} {kvs : List (Key × V)} {k : Key} (e : H a = some (.dK kvs)) : DGet H a (kV k) (valV kvs k) := .inl ⟨kvs, k, .inl e, rfl, rfl⟩
section
variable {X : Cx} {pins : List (Addr × Obj)} {σ : St} {H : Hp} {s : Shared} {a : Addr} {y v : V} {u r : Value} {o : Option V} {A : Around} {E : Value → Shared → Prop}
theorem Inv.big (I : Inv X pins σ H s) : sysModules < s.heap.objs.size := by
  have h : mainGlobals < s.heap.objs.size := (I.mod.glob.keeps I.bk).lt
  exact Nat.lt_trans (by decide) h
theorem d_getItem {Q : Value → Shared → Prop} (hu : A.units + 1 < cLine) (I : Inv X pins σ H s) (g : DGet H a y (some v)) (ry : RelV y u) (h : ∀ w' s', Inv X pins σ H s' → RelV v w' → Q w' s') :
    wpAny (model X.prog X.w) A (getItem (.ref a) u) Q E s := by
  rcases g with ⟨kvs, k, e, ey, l⟩ | ⟨kvs, k, b, e, ey, eb, l⟩
  · subst ey
    obtain ⟨z, hd, vs, rel, dd⟩ := dk_rd I.hok e
    obtain ⟨w', hw, rw'⟩ := RelO.some_of (v := v) (o := valueAt vs k) (by rw [l]; exact rel.val k)
    exact wpAny_getItem_of (kV_is ry) dd.mapOf hw (h w' _ (I.tok _) rw')
  · subst ey
    cases (show u = Value.ref b from ry)
    obtain ⟨z, hd, xs, rel, dd⟩ := dt_rd I.hok e
    obtain ⟨w', hw, rw'⟩ := RelO.some_of (v := v) (o := (atKey xs k).map (·.2)) (by rw [l]; exact rel.val k)
    obtain ⟨p, hp, hp2⟩ := Option.map_eq_some_iff.mp hw
    refine wpAny_getItem_heap (tupleKind_room_in1 hu) (key_of I.hok eb) dd hp ?_
    rw [hp2]
    exact h w' _ (I.tok _) rw'
theorem d_in {Q : Value → Shared → Prop} (hu : A.units + 1 < cLine) (I : Inv X pins σ H s) (g : DGet H a y o) (ry : RelV y u) (h : ∀ s', Inv X pins σ H s' → Q (.bool o.isSome) s') :
    wpAny (model X.prog X.w) A (compareOp .In u (.ref a)) Q E s := by
  rcases g with ⟨kvs, k, e, ey, l⟩ | ⟨kvs, k, b, e, ey, eb, l⟩
  · subst ey
    obtain ⟨z, hd, vs, rel, dd⟩ := dk_rd I.hok e
    refine wpAny_in_of (kV_is ry) hd dd.mapOf ?_
    rw [← (rel.val k).isSome_eq, ← l]
    exact h _ (I.tok _)
  · subst ey
    cases (show u = Value.ref b from ry)
    obtain ⟨z, hd, xs, rel, dd⟩ := dt_rd I.hok e
    refine wpAny_in_heap (tupleKind_room_in1 hu) (key_of I.hok eb) hd dd ?_
    have q := (rel.val k).isSome_eq
    rw [Option.isSome_map] at q
    rw [← q, ← l]
    exact h _ (I.tok _)
theorem d_notIn {Q : Value → Shared → Prop} (hu : A.units + 1 < cLine) (I : Inv X pins σ H s) (g : DGet H a y o) (ry : RelV y u) (h : ∀ s', Inv X pins σ H s' → Q (.bool (!o.isSome)) s') :
    wpAny (model X.prog X.w) A (compareOp .NotIn u (.ref a)) Q E s := by
  rcases g with ⟨kvs, k, e, ey, l⟩ | ⟨kvs, k, b, e, ey, eb, l⟩
  · subst ey
    obtain ⟨z, hd, vs, rel, dd⟩ := dk_rd I.hok e
    refine wpAny_notIn_of (kV_is ry) hd dd.mapOf ?_
    rw [← (rel.val k).isSome_eq, ← l]
    exact h _ (I.tok _)
  · subst ey
    cases (show u = Value.ref b from ry)
    obtain ⟨z, hd, xs, rel, dd⟩ := dt_rd I.hok e
    refine wpAny_notIn_heap (tupleKind_room_in1 hu) (key_of I.hok eb) hd dd ?_
    have q := (rel.val k).isSome_eq
    rw [Option.isSome_map] at q
    rw [← q, ← l]
    exact h _ (I.tok _)
theorem d_write {h' : Heap} {t' : Nat} {ob : HO} (I : Inv X pins σ H s) (mu : Mut (H a)) (hs : Heap.SameBut a s.heap h') (he : ∃ q, h'.get? a = some q) (new : ObjOk X.prog X.w (upd H a ob) h' a ob) :
    Inv X pins σ (upd H a ob) { s with heap := h', toks := t' } :=
  I.write (x := a) (e := a) mu (.inl rfl) (fun b q hb z => (hs.2 b hb).trans z) he new
theorem dk_new {P : Program} {w : World} {H' : Hp} {h' : Heap} {kvs : List (Key × V)} {vs : List (Key × Value)} (z : kvs.length ≤ sizeLine) (hd : (a == sysModules) = false) (rel : KV kvs vs) (dd : h'.DictOf (mixKind P w) a vs) :
    ObjOk P w H' h' a (.dK kvs) := ⟨z, hd, vs, rel, dd⟩
end
section
variable {X : Cx} {pins : List (Addr × Obj)} {σ : St} {H : Hp} {s : Shared} {a : Addr} {kvs : List (Key × V)} {k : Key} {u : Value} {A : Around} {E : Value → Shared → Prop}
end
def NoSl (i : Expr) : Prop := ∀ ov iv, subscripted i false ov iv = operate [ov, iv] (getItem ov iv)
theorem subD_of {prog : Program} {w : World} {A : Around} {E : Value → Shared → Prop} {s : Shared} {env : Env} {value slice : Expr} {pos : Pos} {T id : String} {Q : Value → Shared → Prop}
    (hl : typeLookup (.type T) "__getitem__" = pure (some (.builtin id))) (hs : NoSl slice)
    (h : wpAny (model prog w) A (eval value env) (fun o s₁ => wpAny (model prog w) A (eval slice env) (fun i s₂ => s₂.TypeIs o T ∧ wpAny (model prog w) A (getItem o i) Q E s₂) E s₁) E s) :
    wpAny (model prog w) A (eval (.Subscript value slice pos) env) Q E s := by
  refine Subscript_ (wpAny_mono h (fun o s₁ h₁ => wpAny_mono h₁ (fun i s₂ h₂ => ?_) fun _ _ x => x) fun _ _ x => x)
  obtain ⟨hT, h₂⟩ := h₂
  unfold subscriptTail
  refine wpAny_bind ?_
  rw [getitemInPython_of_ne hT.not_modules]
  refine wpAny_bind (wpAny_specialOf hT hl ?_)
  have fin : wpAny (model prog w) A (subscripted slice false o i) (fun r s₃ => wpAny (model prog w) A (letTemporaryGo value o r >>= fun _ => pure r) Q E s₃) E s₂ := by
    rw [hs o i]
    exact wpAny_operating (wpAny_mono h₂ (fun r s₃ h₃ => wpAny_bind (wpAny_letTemporaryGo (wpAny_pure h₃))) fun _ _ x => x)
  first
    | exact wpAny_pure (wpAny_bind fin)
    | exact wpAny_bind (wpAny_pure (wpAny_bind fin))
    | exact wpAny_bind fin
theorem dict_typeIs {X : Cx} {pins : List (Addr × Obj)} {σ : St} {H : Hp} {s : Shared} {a : Addr} {y : V} {o : Option V} (I : Inv X pins σ H s) (g : DGet H a y o) : s.TypeIs (.ref a) "dict" := by
  rcases g with ⟨kvs, k, e, _, _⟩ | ⟨kvs, k, b, e, _, _, _⟩
  · obtain ⟨_, _, vs, _, dd⟩ := dk_rd I.hok e
    exact dd.typeIs
  · obtain ⟨_, _, xs, _, dd⟩ := dt_rd I.hok e
    exact dd.typeIs
def tDGet (td ty : TE) : TE := fun σ H Q => td σ H fun x H1 => ty σ H1 fun y H2 => ∃ a v, x = .ref a ∧ DGet H2 a y (some v) ∧ Q v H2
def tDIn (ty td : TE) : TE := fun σ H Q => ty σ H fun y H1 => td σ H1 fun x H2 => ∃ a o, x = .ref a ∧ DGet H2 a y o ∧ Q (.bl o.isSome) H2
def tDNotIn (ty td : TE) : TE := fun σ H Q => ty σ H fun y H1 => td σ H1 fun x H2 => ∃ a o, x = .ref a ∧ DGet H2 a y o ∧ Q (.bl (!o.isSome)) H2
section
variable {X : Cx} {o i e value : Expr} {pos pos' tpos : Pos} {td ty tv : TE}
theorem pe_dget (hu : X.A.units + 1 < cLine) (ho : PE X o td) (hi : PE X i ty) (hs : NoSl i) : PE X (.Subscript o i pos) (tDGet td ty) := by
  intro pins s σ H Q I h
  refine subD_of PySem.F.slot_dict_getitem.lookup hs (thn (ho pins s σ H _ I h) fun u s1 ⟨x, H1, I1, rx, q1⟩ => thn (hi pins s1 σ H1 _ I1 q1) fun iv s2 ⟨y, H2, I2, ry, a, v, ex, g, q2⟩ => ?_)
  subst ex
  obtain rfl : u = Value.ref a := rx
  exact ⟨dict_typeIs I2 g, d_getItem hu I2 g ry fun w' s3 I3 rw' => ⟨v, H2, I3, rw', q2⟩⟩
theorem pc_din (hu : X.A.units + 1 < cLine) (hi : PE X i ty) (ho : PE X o td) : PC X .In i o (tDIn ty td) := by
  intro pins s σ H Q I h
  refine thn (hi pins s σ H _ I h) fun iv s1 ⟨y, H1, I1, ry, q1⟩ => thn (ho pins s1 σ H1 _ I1 q1) fun u s2 ⟨x, H2, I2, rx, a, ov, ex, g, q2⟩ => ?_
  subst ex
  obtain rfl : u = Value.ref a := rx
  exact d_in hu I2 g ry fun s3 I3 => ⟨.bl ov.isSome, H2, I3, rfl, q2⟩
theorem pc_dnotin (hu : X.A.units + 1 < cLine) (hi : PE X i ty) (ho : PE X o td) : PC X .NotIn i o (tDNotIn ty td) := by
  intro pins s σ H Q I h
  refine thn (hi pins s σ H _ I h) fun iv s1 ⟨y, H1, I1, ry, q1⟩ => thn (ho pins s1 σ H1 _ I1 q1) fun u s2 ⟨x, H2, I2, rx, a, ov, ex, g, q2⟩ => ?_
  subst ex
  obtain rfl : u = Value.ref a := rx
  exact d_notIn hu I2 g ry fun s3 I3 => ⟨.bl (!ov.isSome), H2, I3, rfl, q2⟩
end
theorem dk_empty {P : Program} {w : World} {H : Hp} (h : Heap) (hb : sysModules < h.objs.size) : ObjOk P w H (h.push { cls := .type "dict", data := .dict #[] }) h.objs.size (.dK []) :=
  ⟨Nat.zero_le _, beq_eq_false_iff_ne.mpr (Ne.symm (Nat.ne_of_lt hb)), [], .nil, Heap.DictOf.new h⟩
def tDNewK : TE := fun _ H Q => ∀ p, H p = none → Q (.ref p) (upd H p (.dK []))
section
variable {X : Cx} {pos : Pos}
theorem pe_dnewK : PE X (.Dict [] [] pos) tDNewK := fun pins s σ H Q I h =>
  wpAny_Dict_empty ⟨.ref s.heap.objs.size, _, I.laid (a := s.heap.objs.size) (o := .dK []) (t' := s.toks) (fun _ _ q => Heap.get?_push_of_some _ q) (Nat.le_refl _) (dk_empty s.heap I.big), rfl, h _ (I.hok.fresh (Nat.le_refl _))⟩
end
def tPairs : List (TE × TE) → St → Hp → (List (V × V) → Hp → Prop) → Prop
  | [], _, H, Q => Q [] H
  | (tk, tv) :: r, σ, H, Q => tk σ H fun x H1 => tv σ H1 fun y H2 => tPairs r σ H2 fun ps H3 => Q ((x, y) :: ps) H3
abbrev VV : List (V × V) → List (Value × Value) → Prop := Paired fun p q => RelV p.1 q.1 ∧ RelV p.2 q.2
def PPs (X : Cx) (pos : Pos) (keys : List (Option Expr)) (values : List Expr) (trs : List (TE × TE)) : Prop :=
  ∀ (pins : List (Addr × Obj)) (s : Shared) (σ : St) (H : Hp) (Q : List (V × V) → Hp → Prop), Inv X pins σ H s → tPairs trs σ H Q →
    wpAny (model X.prog X.w) X.A (evalPairs (pairTrees keys values X.env pos)) (fun vs s' => ∃ ps H', Inv X pins σ H' s' ∧ VV ps vs ∧ Q ps H') X.xe s
theorem pps_nil {X : Cx} {pos : Pos} : PPs X pos [] [] [] := fun pins s σ H Q I h => pairTrees_nil_walk ⟨[], H, I, .nil, h⟩
theorem pps_cons {X : Cx} {pos : Pos} {k v : Expr} {ks : List (Option Expr)} {vs : List Expr} {tk tv : TE} {trs : List (TE × TE)} (hk : PE X k tk) (hv : PE X v tv) (hr : PPs X pos ks vs trs) :
    PPs X pos (some k :: ks) (v :: vs) ((tk, tv) :: trs) := fun pins s σ H Q I h =>
  pairTrees_cons_walk (thn (hk pins s σ H _ I h) fun u s1 ⟨x, H1, I1, rx, q1⟩ => thn (hv pins s1 σ H1 _ I1 q1) fun w2 s2 ⟨y, H2, I2, ry, q2⟩ =>
    thn (hr pins s2 σ H2 _ I2 q2) fun ws s3 ⟨ps, H3, I3, rel, q3⟩ => ⟨(x, y) :: ps, H3, I3, .cons ⟨rx, ry⟩ rel, q3⟩)
def mergeK (kvs more : List (Key × V)) : List (Key × V) := more.foldl (fun acc kv => putK acc kv.1 kv.2) kvs
theorem KV.merge : ∀ {more : List (Key × V)} {rs : List (Key × Value)} {kvs : List (Key × V)} {vs : List (Key × Value)}, KV more rs → KV kvs vs → KV (mergeK kvs more) (merged vs rs) := by
  intro more rs kvs vs r
  unfold KV at r
  induction r generalizing kvs vs with
  | nil => intro q; exact q
  | @cons p q ps qs h t ih =>
    intro r0
    have e : KV (putK kvs p.1 p.2) (stored vs q.1 q.2) := by
      have := r0.put p.1 h.2
      rw [← h.1]; exact this
    exact ih e
theorem length_mergeK : ∀ (more kvs : List (Key × V)), (mergeK kvs more).length ≤ kvs.length + more.length
  | [], kvs => by show kvs.length ≤ kvs.length + 0; omega
  | p :: r, kvs => by
    have h1 := length_mergeK r (putK kvs p.1 p.2)
    have h2 := length_putK kvs p.1 p.2
    show (mergeK (putK kvs p.1 p.2) r).length ≤ _
    rw [List.length_cons]; omega
theorem carries_of {P : Program} {w : World} : ∀ {kvs : List (Key × V)} {ws : List (Value × Value)}, VV (kvs.map fun kv => (kV kv.1, kv.2)) ws → ∃ rs, Carries (mixKind P w) ws rs ∧ KV kvs rs
  | [], _, r => by rw [List.map_nil] at r; cases r; exact ⟨[], True.intro, .nil⟩
  | p :: kvs, _, r => by
    rw [List.map_cons] at r
    cases r with
    | @cons a b as bs h t =>
      obtain ⟨rs, c, q⟩ := carries_of (P := P) (w := w) t
      obtain ⟨b1, b2⟩ := b
      exact ⟨(p.1, b2) :: rs, ⟨kV_is h.1, rfl, c⟩, .cons ⟨rfl, h.2⟩ q⟩
def tDisp (trs : List (TE × TE)) : TE := fun σ H Q => ∀ p, H p = none → tPairs trs σ (upd H p (.dK [])) fun ps H2 => H2 p = some (.dK []) ∧ ∃ kvs : List (Key × V), ps = kvs.map (fun kv => (kV kv.1, kv.2)) ∧ kvs.length ≤ 15 ∧ Q (.ref p) (upd H2 p (.dK (mergeK [] kvs)))
theorem pe_disp {X : Cx} {pos : Pos} {keys : List (Option Expr)} {values : List Expr} {trs : List (TE × TE)} (h : PPs X pos keys values trs) (hall : keys.all (·.isSome) = true) (hl : keys.length = values.length) (h0 : keys ≠ [])
    (h15 : keys.length ≤ 15) : PE X (.Dict keys values pos) (tDisp trs) := by
  intro pins s σ H Q I q
  have hn := I.hok.fresh (Nat.le_refl s.heap.objs.size)
  have I1 := I.laid (a := s.heap.objs.size) (o := .dK []) (h' := s.heap.push { cls := .type "dict", data := .dict #[] }) (t' := s.toks) (fun _ _ q => Heap.get?_push_of_some _ q) (Nat.le_refl _) (dk_empty s.heap I.big)
  refine wpAny_Dict_walk (knd := mixKind X.prog X.w) hall hl h0 h15 (thn (h pins _ σ _ _ I1 (q _ hn)) fun ws s2 ⟨ps, H2, I2, rel, e, kvs, ep, lk, q2⟩ => ?_)
  subst ep
  obtain ⟨rs, c, rk⟩ := carries_of (P := X.prog) (w := X.w) rel
  obtain ⟨z, hd, vs0, r0, dd⟩ := dk_of I2.hok e
  cases r0
  refine ⟨rs, c, dd, fun h' dd' hs => ⟨.ref s.heap.objs.size, _, ?_, rfl, q2⟩⟩
  have hz : (mergeK [] kvs).length ≤ sizeLine := by
    have h1 := length_mergeK kvs []
    rw [List.length_nil] at h1
    rw [sizeLine_eq]; omega
  have he : ∃ q, h'.get? s.heap.objs.size = some q := let ⟨q, _, _, hq, _⟩ := dd'; ⟨q, hq⟩
  exact d_write I2 (by rw [e]; exact True.intro) hs he (dk_new hz hd (rk.merge .nil) dd')
structure M1 (X : Cx) (o : Expr) (m : Str) (apos : Pos) (e : Expr) (cpos : Pos) : Prop where
  base : attributeBase o m X.env (eval o X.env) = eval o X.env
  few : ((backTo cpos (starEach [e] X.env)).all (fun x => !x.1) && (backToKw cpos (keywordEach [] X.env)).all (fun x => x.1.isSome)
    && decide (([e] : List Expr).length + ([] : List Keyword).length + (if ([] : List Keyword).isEmpty then 0 else 1) < 30)) = true
  line : (apos.endLine == cpos.line) = true
  trees : backTo cpos (starEach [e] X.env) = [(false, eval e X.env)]
structure M2 (X : Cx) (o : Expr) (m : Str) (apos : Pos) (e f : Expr) (cpos : Pos) : Prop where
  base : attributeBase o m X.env (eval o X.env) = eval o X.env
  few : ((backTo cpos (starEach [e, f] X.env)).all (fun x => !x.1) && (backToKw cpos (keywordEach [] X.env)).all (fun x => x.1.isSome)
    && decide (([e, f] : List Expr).length + ([] : List Keyword).length + (if ([] : List Keyword).isEmpty then 0 else 1) < 30)) = true
  line : (apos.endLine == cpos.line) = true
  trees : backTo cpos (starEach [e, f] X.env) = [(false, eval e X.env), (false, eval f X.env)]
section
variable {X : Cx} {pins : List (Addr × Obj)} {σ : St} {H : Hp} {s : Shared} {a : Addr} {y d : V} {u r : Value} {o : Option V} {A : Around} {E : Value → Shared → Prop}
end
section
variable {X : Cx} {o e f : Expr} {apos cpos : Pos} {td ty tx : TE}
end
section
variable {X : Cx} {pins : List (Addr × Obj)} {σ : St} {H : Hp} {s : Shared} {a : Addr} {kvs : List (Key × V)} {A : Around} {E : Value → Shared → Prop}
end
section
variable {X : Cx} {pins : List (Addr × Obj)} {σ : St} {H : Hp} {s : Shared} {a : Addr} {y : V} {u : Value} {A : Around} {E : Value → Shared → Prop}
end
end L2
namespace Att
open PySem PySem.W PySem.Calls PyProof.Rows
theorem ints_of_wellAll {P : Params} {h : Heap} : ∀ (ns : List Int) (vs : List Value), WellAll P h vs (ns.map WData.int) → IntsAre vs ns := by
  intro ns
  induction ns with
  | nil =>
    intro vs w
    rw [List.map_nil] at w
    cases w
    exact .nil
  | cons n ns ih =>
    intro vs w
    rw [List.map_cons] at w
    cases w with
    | cons a b =>
      cases a
      exact .cons _ _ (ih _ b)
theorem script_of {l : OpenLaw} {n : Nat} (hn : l.most = some n) {P : Params} {h : Heap} {args : List WData} {vals : List Value}
    (hpre : l.row.toRowW.claim.pre args = true) (hwl : WellAll P h vals args) :
    ∃ a vs ns, vals = [Value.ref a] ∧ args = [WData.list (ns.map WData.int)] ∧ h.get? a = some { cls := .type "list", data := .seq vs.toArray } ∧ IntsAre vs ns ∧ ns.length ≤ n := by
  have hsh : WShape.hasAll [] args [.list .int] = true := (pre_splitW hpre).1
  have hc : l.pre.holds [] { args := args } = true := (pre_splitW hpre).2
  obtain ⟨d, r, rfl, h1, h2⟩ := hasAllW_cons hsh
  obtain rfl := hasAllW_nil h2
  obtain ⟨xs, rfl, h3⟩ := hasW_list h1
  obtain ⟨ns, rfl⟩ := items_int h3
  have hlen : ns.length ≤ n := by
    unfold OpenLaw.pre at hc
    have h4 : (WTm.not (.lt (.lit (.int (n : Int))) (.len (.arg 0)))).holds [] { args := [.list (ns.map .int)] } = true := by
      have h4 := (holds_andW hc).1
      rw [hn] at h4
      exact h4
    have h5 := condW_of h4 (w_not (w_lt w_lit (w_len_list (w_arg rfl))))
    rw [List.length_map] at h5
    refine Nat.le_of_not_lt fun q => ?_
    have q' : (n : Int) < ((ns.length : Nat) : Int) := by omega
    first
      | (rw [decide_eq_true q'] at h5; exact absurd h5 (by decide))
      | (simp at h5; omega)
  cases hwl with
  | cons w1 w2 =>
    cases w2
    cases w1 with
    | list ho hall => exact ⟨_, _, ns, rfl, rfl, ho, ints_of_wellAll ns _ hall, hlen⟩
theorem post_true (l : OpenLaw) (args : List WData) : l.row.toRowW.claim.post args (.bool true) args = true :=
  postW_of (r := l.row.toRowW) (X := (true == true))
    (show WShape.has [] (.bool true) .bool = true by first | rfl | decide | simp [WShape.has, WShape.arms, WShape.armsAll])
    (show (WTm.eq .res (.lit (.bool true))).value [] { args := args, res := some (.bool true), after := args } = some (.bool (true == true)) from w_eq_bool (w_res rfl) w_lit) rfl
theorem attach_call {l : OpenLaw} {n : Nat} {q : Program} {loose : List Str} {XP : (Str → Option Value) → Heap → Prop} {YP : World → Heap → Prop} {d : DefRec}
    (hn : l.most = some n) (hdf : d.params.defaults = [])
    (call : ∀ (w : World) (s₀ s₁ : Shared) (mg mb : Str → Option Value) (fa : Addr) (o : Obj) (pm cd doc : Value) (a : Addr) (vs : List Value) (ns : List Int),
      Ground q loose [] XP w s₀ mg mb s₁.heap → YP w s₁.heap →
      s₁.heap.get? fa = some o → o.data = .func (docDef d.name d.params d.body d.scope pm cd doc) → s₁.heap.CodeRec cd d.name → mg d.name = some (.ref fa) →
      s₁.heap.get? a = some { cls := .type "list", data := .seq vs.toArray } → IntsAre vs ns → ns.length ≤ n → s₁.gens = #[] →
      codeAny (model l.prog w) callerA (.call (.ref fa) ⟨[.ref a], []⟩) (fun r s' => r = .ok (.ret (.bool true)) ∧ OldK s₁.heap s'.heap ∧ s'.os = s₁.os ∧ AllBare s'.gens) s₁) :
    WalkO q loose XP YP l.row.toRowW d [] (fun f vs => PySem.call f vs) := by
  intro w s₀ s₁ mg mb G Y fa o pm cd doc dV kV ho hd hcd hD hmg hg args vals as hpre hlay hrd hwl hlo
  obtain rfl : dV = .none := Dflts.none hD hdf
  obtain rfl : kV = .none := Dflts.noKw hD
  obtain ⟨a, vs, ns, rfl, rfl, hobj, hints, hlen⟩ := script_of hn hpre hwl
  refine enter_call (codeAny_mono (call w s₀ s₁ mg mb fa o pm cd doc a vs ns G Y ho (fd_plain hd) hcd hmg hobj hints hlen hg) fun r s' hq => ?_)
  obtain ⟨rfl, h2, h3, h4⟩ := hq
  exact ⟨.inl ⟨.bool true, .bool true, [], rfl, fun _ => rfl, .bool true, post_true l _, fun _ => ⟨List.Pairwise.nil, fun _ hm => (nomatch hm)⟩⟩, h2, h3, h4⟩
section
variable {prog : Program} {w : World} {A : Around} {E : Value → Shared → Prop} {s : Shared} {K : Frag}
end
end Att
namespace L2
open PySem PySem.Spec PyProof.Rows
theorem vals_ints : ∀ {vs : List Value} {ns : List Int}, IntsAre vs ns → Vals (ns.map V.int) vs
  | _, _, .nil => .nil
  | _, _, .cons n t h => .cons ⟨t, rfl⟩ (vals_ints h)
def Only (H : Hp) : Prop := ∀ b, H b = none ∨ ∃ o xs, H b = some (.frz o (.lst xs))
theorem law_call {P : Program} {w : World} {K : PySem.W.Frag} {mg mb : Str → Option Value} {CX : CXT} {k : Nat} {fa a : Addr} {fd : FuncData} {x : Str} {sp : Sp} {s₁ : Shared} {vs : List Value} {ns : List Int}
    (KX : K.In s₁.heap) (hns : s₁.heap.Ns mainGlobals mg) (hb : s₁.heap.Ns builtinsNs mb) (hbb : ∀ x : Str, x ≠ "__name__" → mb x = bootBuiltins x) (hlim : s₁.heap.NoLimit) (hbm : BmK mg s₁.heap) (hg : s₁.gens = #[])
    (ha : s₁.heap.get? a = some { cls := .type "list", data := .seq vs.toArray }) (hi : IntsAre vs ns) (hl : ns.length ≤ sizeLine) (hr : Room k callerA)
    (F : ∀ base : Heap, K.In base → base.Ns mainGlobals mg → FnOk P w K mg base CX k fa fd [x] sp) (hbind : ∀ (s : Shared) (u : Value), BindsTo s fd ⟨[u], []⟩ [(x, u)])
    (hsp : ∀ H : Hp, Only H → SqL K H a (ns.map V.int) → sp [.ref a] H (fun v _ => v = .bl true) fun _ _ _ => False)
    (hCX : ∀ H e s', CX callerA.handled [] H s₁ (fun _ _ _ => False) e s' → False) :
    codeAny (model P w) callerA (.call (.ref fa) ⟨[.ref a], []⟩) (fun r s' => r = .ok (.ret (.bool true)) ∧ OldK s₁.heap s'.heap ∧ s'.os = s₁.os ∧ AllBare s'.gens) s₁ := by
  have rv := vals_ints hi
  have lenV := hi.length
  -- from an abstract heap in which nothing but the script may be tracked
  have core : ∀ H : Hp, Only H → SqL K H a (ns.map V.int) → HOk P w H s₁.heap → (∀ b, H b ≠ none → b = a) → (H a ≠ none → K.lookup a = none) →
      codeAny (model P w) callerA (.call (.ref fa) ⟨[.ref a], []⟩) (fun r s' => r = .ok (.ret (.bool true)) ∧ OldK s₁.heap s'.heap ∧ s'.os = s₁.os ∧ AllBare s'.gens) s₁ := by
    intro H hO hS hok hA hK
    have base_of : ∀ {b : Addr} {o : Obj}, s₁.heap.get? b = some o → H b = none → (hidT s₁.heap H).get? b = some o := fun e n => hidT_get e n
    have noA : ∀ {b : Addr} {o : Obj} {es : Array DictEntry} {ep : Nat}, s₁.heap.get? b = some o → o.data = .dict es ep → H b = none := fun {b o es ep} e d => by
      cases q : H b with
      | none => rfl
      | some u =>
        have e' : b = a := hA b (by rw [q]; simp)
        subst e'
        rw [ha] at e; cases e
        have d' : Data.seq vs.toArray _ = Data.dict es ep := d
        cases d'
    have nsK : ∀ {b : Addr} {m : Str → Option Value}, s₁.heap.Ns b m → (hidT s₁.heap H).Ns b m := fun {b m} ⟨o, es, ep, e, d, r⟩ => ⟨o, es, ep, base_of e (noA e d), d, r⟩
    have hKb : K.In (hidT s₁.heap H) := fun b o e => base_of (KX b o e) (by
      cases q : H b with
      | none => rfl
      | some u =>
        have e' : b = a := hA b (by rw [q]; simp)
        subst e'
        rw [hK (by rw [q]; simp)] at e; cases e)
    have bmK : ∀ {m : Str → Option Value}, BmK m s₁.heap → BmK m (hidT s₁.heap H) := fun {m} ⟨bm, ob, e1, e2, e3, e4⟩ => ⟨bm, ob, e1, e2, base_of e3 (by
      cases q : H bm with
      | none => rfl
      | some u =>
        have e' : bm = a := hA bm (by rw [q]; simp)
        subst e'
        rw [ha] at e3; cases e3
        exact absurd (show Value.type "list" = Value.type "module" from e4.1) (by simp)), e4⟩
    have hM : Mod K mg (hidT s₁.heap H) := ⟨hKb, nsK hns, ⟨mb, nsK hb, hbb⟩, let ⟨mc, h1, h2⟩ := hlim; ⟨mc, nsK h1, h2⟩, bmK hbm⟩
    have e0 : Env0 P w K mg (hidT s₁.heap H) callerA [] s₁ H := ⟨rfl, hM, fun b o e => of_hidT e, Nat.le_of_eq (hidT_size _ _), trivial, fun b hb => absurd (show b ∈ ([] : List Addr) from hb) (by simp), hok, .of_eq hg, .inl rfl⟩
    refine codeAny_mono ((F _ hKb (nsK hns)).run callerA [] s₁ H ⟨[.ref a], []⟩ [.ref a] [.ref a] _ _ hr e0 (hbind s₁ (.ref a)) (.cons rfl .nil) (hsp H hO hS)) fun r s' h => ?_
    cases r with
    | error e => exact (hCX H e s' h).elim
    | ok fl =>
      cases fl with
      | next => exact False.elim h
      | brk => exact False.elim h
      | cont => exact False.elim h
      | ret u =>
        obtain ⟨v, H', os, bare, un, hok', r', q⟩ := h
        have q' : v = .bl true := q
        subst q'
        obtain rfl : u = Value.bool true := r'
        refine ⟨rfl, OldK.of_keep fun b o e => ?_, os, bare⟩
        cases q : H b with
        | none => exact un.keep b o e q (by intro z; exact absurd (show b ∈ ([] : List Addr) from z) (by simp)) (by simp)
        | some u =>
          rcases hO b with z | ⟨ob, xs, z⟩
          · rw [q] at z; cases z
          · have z2 := un.frzs b ob _ z
            obtain ⟨e1, _⟩ := hok b _ z
            obtain ⟨e2, _⟩ := hok' b _ z2
            rw [e] at e1; cases e1
            exact e2
  cases hk : K.lookup a with
  | some o =>
    -- the script is one of the module's own objects
    have e := KX a o hk
    rw [ha] at e
    cases e
    refine core (fun _ => none) (fun _ => .inl rfl) (.inr ⟨_, vs.toArray, _, hk, rfl, rfl, rfl, by rw [List.size_toArray, lenV]; exact hl, by simpa using rv⟩) (fun b u z => by have z' : (none : Option HO) = some u := z; cases z') (fun b z => absurd rfl z) fun z => absurd rfl z
  | none =>
    refine core (fun b => if b = a then some (.frz { cls := .type "list", data := .seq vs.toArray } (.lst (ns.map V.int))) else none) (fun b => ?_) (.inl (.inr ⟨{ cls := .type "list", data := .seq vs.toArray }, if_pos rfl⟩)) (fun b u z => ?_) (fun b z => ?_) fun _ => hk
    · by_cases hb : b = a
      · exact .inr ⟨_, _, if_pos hb⟩
      · exact .inl (if_neg hb)
    · by_cases hb : b = a
      · have z' := (if_pos hb).symm.trans z
        cases z'
        subst hb
        exact ⟨ha, by rw [List.length_map]; exact hl, vs, _, rv, ha⟩
      · have z' := (if_neg hb).symm.trans z
        cases z'
    · by_cases hb : b = a
      · exact hb
      · exact absurd (if_neg hb) z
end L2
namespace L2
open PySem PySem.Spec PyProof.Rows
abbrev KOf {K : PySem.W.Frag} {h : Heap} (_ : K.In h) : PySem.W.Frag := K
theorem walk_of {l : PySem.W.OpenLaw} {n k : Nat} {q : Program} {loose : List Str} {XP : (Str → Option Value) → Heap → Prop} {YP : World → Heap → Prop} {d : DefRec} {K : Params → PySem.W.Frag} {CX : World → CXT} {sp : World → Sp} {x : Str}
    (hn : l.most = some n) (hn2 : n ≤ sizeLine) (hdf : d.params.defaults = []) (hr : Room k callerA)
    (hY : ∀ (w : World) (h : Heap), YP w h → (K w.params).In h)
    (F : ∀ (w : World) (mg : Str → Option Value) (fa : Addr) (h : Heap), (K w.params).In h → h.Ns mainGlobals mg → mg d.name = some (.ref fa) →
      ∃ fd : FuncData, (∀ (s : Shared) (u : Value), BindsTo s fd ⟨[u], []⟩ [(x, u)]) ∧
        ∀ base : Heap, (K w.params).In base → base.Ns mainGlobals mg → FnOk l.prog w (K w.params) mg base (CX w) k fa fd [x] (sp w))
    (hsp : ∀ (w : World) (H : Hp) (a : Addr) (ns : List Int), ns.length ≤ n → Only H → SqL (K w.params) H a (ns.map V.int) → sp w [.ref a] H (fun v _ => v = .bl true) fun _ _ _ => False)
    (hCX : ∀ (w : World) (H : Hp) (s : Shared) (e : Value) (s' : Shared), CX w callerA.handled [] H s (fun _ _ _ => False) e s' → False) :
    PySem.W.WalkO q loose XP YP l.row.toRowW d [] (fun f vs => PySem.call f vs) := by
  refine Att.attach_call hn hdf fun w s₀ s₁ mg mb fa o pm cd doc a vs ns G Y ho hd hcd hmg hobj hints hlen hg => ?_
  have KX := hY w _ Y
  obtain ⟨fd, hb, hF⟩ := F w mg fa _ KX G.T.g hmg
  exact law_call KX G.T.g G.T.b G.T.builtins G.T.nolimit G.T.bmain hg hobj hints (Nat.le_trans hlen hn2) hr hF hb (fun H hO hS => hsp w H a ns hlen hO hS) fun H e s' => hCX w H s₁ e s'
end L2
namespace L2
open PySem PySem.Spec PyProof.Rows
def defArgs (s : Stmt) : Arguments := match s with
  | .FunctionDef _ a _ _ _ _ _ _ _ _ => a
  | _ => { posonlyargs := [], args := [], vararg := none, kwonlyargs := [], kw_defaults := [], kwarg := none, defaults := [] }
def defBody (s : Stmt) : List Stmt := match s with
  | .FunctionDef _ _ b _ _ _ _ _ _ _ => b
  | _ => []
def defScope (s : Stmt) : Scope := match s with
  | .FunctionDef _ _ _ _ _ _ sc _ _ _ => sc
  | _ => { kind := .function, names := [], isGenerator := false, isCoroutine := false }
abbrev CX0 : CXT := fun _ _ _ _ _ _ _ => False
abbrev E0 : XK := fun _ _ _ => False
theorem pass0 {X : Cx} : Passes CX0 X E0 := fun _ _ _ _ _ _ _ h => h.elim
structure Fun (K : PySem.W.Frag) (x qual : Str) (st : Stmt) (f : Addr) (fd : FuncData) : Prop where
  ex : ∃ (oc : Value) (od : Option Addr) (kV doc pm : Value) (an : Option Addr) (cdv ct : Value) (osl : Array (Option Value)),
    fd = PySem.W.fnOf x qual (defArgs st) (defBody st) (defScope st) .none kV doc pm an cdv ct ∧ K.lookup f = some ⟨oc, od, .func fd, osl⟩ ∧ PySem.W.codeIn K cdv qual = true
  kp : PySem.W.keepIn K (.ref f) = true
section
variable {P : Program} {w : World} {K : PySem.W.Frag} {mg : Str → Option Value} {base : Heap}
theorem Fun.ok {x qual : Str} {st : Stmt} {f : Addr} {fd : FuncData} {N ps : List Str} {k : Nat} {sp : Sp} (F : Fun K x qual st f fd) (S : FnScope N ps (defScope st)) (len : ∀ vs H Q E, sp vs H Q E → vs.length = ps.length)
    (hbody : ∀ (cdv : Value) (A : Around) (outer : List Env) (s : Shared) (H : Hp) (vs : List V) (Q : VK) (E : XK), Room k (A.deeper (envOfC qual (defScope st) s.heap.objs.size f cdv)) → sp vs H Q E →
      ∃ t, PSs (cxOf CX0 P w K mg base N qual (defScope st) f cdv A outer s H E).nox (defBody st) t ∧ t { nx := fun _ H' => Q .non H', rt := Q } (start N vs) H) : FnOk P w K mg base CX0 (k + 1) f fd ps sp := by
  obtain ⟨oc, od, kV, doc, pm, an, cdv, ct, osl, rfl, lk, hcd⟩ := F.ex
  refine fn_of lk hcd S len fun A outer s H vs Q E hr hsp => ?_
  obtain ⟨t, h, q⟩ := hbody cdv A outer s H vs Q E hr hsp
  exact ⟨t, h.nox, q⟩
theorem Fun.binds {x qual : Str} {st : Stmt} {f : Addr} {fd : FuncData} {ps : List Str} (F : Fun K x qual st f fd)
    (h : ∀ (kV doc pm : Value) (an : Option Addr) (cdv ct : Value) (us : List Value), us.length = ps.length → bindArgs (PySem.W.fnOf x qual (defArgs st) (defBody st) (defScope st) .none kV doc pm an cdv ct) ⟨us, []⟩ = pure (ps.zip us)) : Binds K fd ps [] := by
  obtain ⟨oc, od, kV, doc, pm, an, cdv, ct, osl, rfl, lk, hcd⟩ := F.ex
  exact .all (h kV doc pm an cdv ct)
theorem fun_mk {x qual : Str} {st : Stmt} {f : Addr} {oc : Value} {od an : Option Addr} {osl : Array (Option Value)} {kV doc pm cdv ct : Value} (l : K.lookup f = some ⟨oc, od, .func (PySem.W.fnOf x qual (defArgs st) (defBody st) (defScope st) .none kV doc pm an cdv ct), osl⟩)
    (c : PySem.W.codeIn K cdv qual = true) (k : PySem.W.keepIn K (.ref f) = true) : Fun K x qual st f (PySem.W.fnOf x qual (defArgs st) (defBody st) (defScope st) .none kV doc pm an cdv ct) := ⟨⟨oc, od, kV, doc, pm, an, cdv, ct, osl, rfl, l, c⟩, k⟩
end
theorem hu_of {A : Around} {k : Nat} (hr : Room k A) : A.units + 1 < cLine := Nat.lt_of_le_of_lt (Nat.add_le_add_left (by decide : 1 ≤ 64) _) hr.units
section
variable {X : Cx}
theorem pv (i : Nat) {x : Str} {pos : Pos} (hN : X.N[i]? = some x := by rfl) (hv : Vis X.env.scope x := by first | exact Or.inl rfl | exact Or.inr (Or.inl rfl) | exact Or.inr (Or.inr rfl)) (hd : (x == ("__debug__" : Str)) = false := by decide)
    (hcd : (x == ("__classdict__" : Str)) = false := by decide) : PE X (.Name x pos) (tVar i) := pe_var hN hv hd hcd
end
theorem iteF {A B : Prop} (h : B) : if false = true then A else B := by
  rw [if_neg Bool.false_ne_true]
  exact h
theorem iteT {A B : Prop} (h : A) : if true = true then A else B := by
  rw [if_pos rfl]
  exact h
theorem ite2 {c A B : Prop} [Decidable c] (h1 : c → A) (h2 : ¬ c → B) : if c then A else B := by
  by_cases h : c
  · rw [if_pos h]
    exact h1 h
  · rw [if_neg h]
    exact h2 h
def Same (H H' : Hp) : Prop := ∀ b o, H b = some o → H' b = some o
theorem Same.refl (H : Hp) : Same H H := fun _ _ h => h
theorem Same.trans {H H1 H2 : Hp} (a : Same H H1) (b : Same H1 H2) : Same H H2 := fun c o h => b c o (a c o h)
theorem Same.free {H H' : Hp} (e : Same H H') {l : Addr} (h : H' l = Option.none) : H l = Option.none := by
  cases q : H l with
  | none => rfl
  | some o =>
    rw [e l o q] at h
    cases h
end L2
namespace L2
open PySem PySem.Spec PyProof.Rows
section
variable {X : Cx}
end
section
variable {κ : Type} [DecidableEq κ]
theorem valV_in {kvs : List (κ × V)} {k : κ} {v : V} (h : valV kvs k = some v) : k ∈ kvs.map (·.1) := by
  have q : (kvs.any fun kv => decide (kv.1 = k)) = true := by
    rw [valV_any, h]
    all_goals rfl
  obtain ⟨p, hp, e⟩ := List.any_eq_true.mp q
  exact List.mem_map.mpr ⟨p, hp, of_decide_eq_true e⟩
end
end L2
end
section
namespace L3
open PySem PySem.Spec PyProof.Rows L2
def closedC (env : Env) : List (Str × NameKind) → List (Str × Addr) → List (Str × Addr)
  | [], cs => cs
  | (n, k) :: r, cs => closedC env r (if (k == .free) = true then (n, (env.cells.lookup n).getD 0) :: cs else cs)
theorem closedC_eq {env : Env} {scope : Scope} (h : ∀ x ∈ scope.names, x.2 = .free → ∃ c, env.cells.lookup x.1 = some c) : closureFor scope env = pure (closedC env scope.names []) := by
  unfold closureFor
  have go : ∀ (l : List (Str × NameKind)) (cs : List (Str × Addr)), (∀ x ∈ l, x.2 = .free → ∃ c, env.cells.lookup x.1 = some c) →
      (forIn l cs fun (x : Str × NameKind) (r : List (Str × Addr)) => if (x.2 == .free) = true then (do let a ← cellOf env x.1; pure (ForInStep.yield ((x.1, a) :: r))) else pure (ForInStep.yield r) : Sem (List (Str × Addr))) = pure (closedC env l cs) := by
    intro l
    induction l with
    | nil => intro cs _; rfl
    | cons x l ih =>
      intro cs hl
      obtain ⟨n, k⟩ := x
      have hr : ∀ y ∈ l, y.2 = .free → ∃ c, env.cells.lookup y.1 = some c := fun y hy => hl y (List.mem_cons_of_mem _ hy)
      rw [List.forIn_cons, closedC]
      by_cases hk : (k == NameKind.free) = true
      · obtain ⟨c, hc⟩ := hl (n, k) List.mem_cons_self (by simpa using hk)
        have hc : env.cells.lookup n = some c := hc
        have e : cellOf env n = pure c := by unfold cellOf; rw [hc]
        simp only [hk, if_true, e, pure_bind, hc, Option.getD_some]
        exact ih _ hr
      · simp only [hk, if_false, pure_bind]
        exact ih _ hr
  have q := go scope.names [] h
  simp only [bind_pure]
  exact q
theorem closedC_keep {env : Env} {x : Str} : ∀ (l : List (Str × NameKind)) (cs : List (Str × Addr)), (∃ c, cs.lookup x = some c) → ∃ c, (closedC env l cs).lookup x = some c
  | [], _, h => h
  | (n, k) :: r, cs, h => by
    rw [closedC]
    refine closedC_keep r _ ?_
    by_cases hk : (k == NameKind.free) = true
    · rw [if_pos hk, List.lookup_cons]
      cases x == n with
      | true => exact ⟨_, rfl⟩
      | false => exact h
    · rw [if_neg hk]; exact h
theorem closedC_has {env : Env} {x : Str} : ∀ (l : List (Str × NameKind)) (cs : List (Str × Addr)), (x, NameKind.free) ∈ l → ∃ c, (closedC env l cs).lookup x = some c
  | [], _, h => by cases h
  | (n, k) :: r, cs, h => by
    rw [closedC]
    rcases List.mem_cons.mp h with e | h
    · cases e
      refine closedC_keep r _ ?_
      rw [if_pos (by decide), List.lookup_cons, beq_self_eq_true]
      exact ⟨_, rfl⟩
    · exact closedC_has r _ h
theorem closedC_sound {env : Env} : ∀ (l : List (Str × NameKind)) (cs : List (Str × Addr)), (∀ x ∈ l, x.2 = .free → ∃ c, env.cells.lookup x.1 = some c) → (∀ x c, cs.lookup x = some c → env.cells.lookup x = some c) →
    ∀ x c, (closedC env l cs).lookup x = some c → env.cells.lookup x = some c
  | [], _, _, h => h
  | (n, k) :: r, cs, hl, h => by
    rw [closedC]
    refine closedC_sound r _ (fun y hy => hl y (List.mem_cons_of_mem _ hy)) fun x c e => ?_
    by_cases hk : (k == NameKind.free) = true
    · rw [if_pos hk, List.lookup_cons] at e
      cases hx : x == n with
      | true =>
        rw [hx] at e
        obtain rfl : x = n := by simpa using hx
        obtain ⟨c', hc'⟩ := hl (x, k) List.mem_cons_self (by simpa using hk)
        have hc' : env.cells.lookup x = some c' := hc'
        rw [hc'] at e ⊢
        exact e
      | false =>
        rw [hx] at e
        exact h x c e
    · rw [if_neg hk] at e
      exact h x c e
theorem relabel_free {env : Env} : ∀ {l : List (Str × NameKind)} {x : Str}, l.lookup x = some .free →
    (l.map fun (p : Str × NameKind) => if (p.2 == NameKind.free && env.scope.kind == .function && env.kindOf p.1 == some .cell) then (p.1, NameKind.cell) else (p.1, p.2)).lookup x = some .cell ∨
    (l.map fun (p : Str × NameKind) => if (p.2 == NameKind.free && env.scope.kind == .function && env.kindOf p.1 == some .cell) then (p.1, NameKind.cell) else (p.1, p.2)).lookup x = some .free
  | [], _, h => by simp at h
  | (n, k) :: r, x, h => by
    have ih := @relabel_free env r x
    rw [List.lookup_cons] at h
    rw [List.map_cons]
    by_cases hc : (k == NameKind.free && env.scope.kind == .function && env.kindOf n == some .cell) = true
    · simp only [hc, if_true]
      rw [List.lookup_cons]
      cases hx : x == n with
      | true => exact .inl rfl
      | false => rw [hx] at h; exact ih h
    · simp only [hc, Bool.false_eq_true, if_false]
      rw [List.lookup_cons]
      cases hx : x == n with
      | true => rw [hx] at h; exact .inr h
      | false => rw [hx] at h; exact ih h
theorem of_relabel {env : Env} : ∀ {l : List (Str × NameKind)} {x : Str}, (∀ y ∈ l, y.2 ≠ .cell) →
    ((l.map fun (p : Str × NameKind) => if (p.2 == NameKind.free && env.scope.kind == .function && env.kindOf p.1 == some .cell) then (p.1, NameKind.cell) else (p.1, p.2)).lookup x = some .cell ∨
    (l.map fun (p : Str × NameKind) => if (p.2 == NameKind.free && env.scope.kind == .function && env.kindOf p.1 == some .cell) then (p.1, NameKind.cell) else (p.1, p.2)).lookup x = some .free) → (x, NameKind.free) ∈ l
  | [], _, _, h => by simp at h
  | (n, k) :: r, x, hl, h => by
    have ih := @of_relabel env r x fun y hy => hl y (List.mem_cons_of_mem _ hy)
    rw [List.map_cons] at h
    by_cases hc : (k == NameKind.free && env.scope.kind == .function && env.kindOf n == some .cell) = true
    · simp only [hc, if_true] at h
      rw [List.lookup_cons] at h
      cases hx : x == n with
      | true =>
        obtain rfl : x = n := by simpa using hx
        have : k = .free := by simp only [Bool.and_eq_true] at hc; simpa using hc.1.1
        rw [this]
        exact List.mem_cons_self
      | false => rw [hx] at h; exact List.mem_cons_of_mem _ (ih h)
    · simp only [hc, Bool.false_eq_true, if_false] at h
      rw [List.lookup_cons] at h
      cases hx : x == n with
      | true =>
        rw [hx] at h
        obtain rfl : x = n := by simpa using hx
        rcases h with h | h
        · exact absurd (Option.some.inj h) (hl (x, k) List.mem_cons_self)
        · have : k = .free := Option.some.inj h
          rw [this]
          exact List.mem_cons_self
      | false => rw [hx] at h; exact List.mem_cons_of_mem _ (ih h)
abbrev blkEnv (X : Cx) (scope : Scope) (C : Addr) : Env := compEnvC scope (closedC X.env scope.names []) C X.env
abbrev blkCx (X : Cx) (N' : List Str) (scope : Scope) (s3 : Shared) (H3 : Hp) (fp : List Addr) : Cx :=
  { X with N := N', s₀ := s3, H₀ := H3, env := blkEnv X scope s3.heap.objs.size, outer := X.stack, stack := X.stack, ex := fp, fn := fun _ => false, pn := X.pn, xe := fun _ _ => False }
def blkSt (own : Nat) (fr : List Nat) (σ : L2.St) : L2.St := List.replicate own none ++ fr.map fun i => (σ[i]?).join
structure BlkScope (X : Cx) (N' : List Str) (own : Nat) (fr : List Nat) (scope : Scope) : Prop where
  kind : scope.kind = .function
  nocell : ∀ y ∈ scope.names, y.2 ≠ .cell
  loc : ∀ x ∈ scope.names, x.2 = .local → scope.names.lookup x.1 = some .local
  free : ∀ x ∈ scope.names, x.2 = .free → X.env.kindOf x.1 = some .cell ∨ X.env.kindOf x.1 = some .free
  len : N'.length = own + fr.length
  fr : ∀ j i, fr[j]? = some i → ∃ x, N'[own + j]? = some x ∧ X.N[i]? = some x ∧ scope.names.lookup x = some .free
theorem un_sameBut {fs ex : List Addr} {H H' : Hp} {h h1 h2 : Heap} {C : Addr} (u : Un fs ex H H' h h1) (hC : h.objs.size ≤ C) (hs : Heap.SameBut C h1 h2) : Un fs ex H H' h h2 := by
  have ne : ∀ b o, h.get? b = some o → b ≠ C := fun b o e => Nat.ne_of_lt (Nat.lt_of_lt_of_le (Heap.lt_size e) hC)
  refine ⟨fun b o e n hb hx => (hs.2 b (ne b o e)).trans (u.keep b o e n hb hx), fun b o e n hb hx => ?_, u.free, fun b o e hx => ?_, u.tups, u.frzs, u.tbls⟩
  · obtain ⟨sl, q⟩ := u.slot b o e n hb hx
    exact ⟨sl, (hs.2 b (ne b o e)).trans q⟩
  · obtain ⟨o', q⟩ := u.there b o e hx
    exact ⟨o', (hs.2 b (ne b o e)).trans q⟩
theorem hok_sameBut {P : Program} {w : World} {H : Hp} {h h2 : Heap} {C : Addr} (k : HOk P w H h) (hC : H C = none) (hs : Heap.SameBut C h h2) : HOk P w H h2 := fun b ob e => by
  refine (k b ob e).stay (fun c w' hc q => (hs.2 c ?_).trans q) (fun _ q => q) fun _ _ q => q
  rintro rfl
  rcases hc with rfl | hc
  · rw [hC] at e; cases e
  · rw [hC] at hc; cases hc
def PIf (Y : Cx) (ifs : List Expr) (tt : TT) : Prop :=
  ∀ (pins : List (Addr × Obj)) (s : Shared) (σ : L2.St) (H : Hp) (Q : Bool → Hp → Prop), Inv Y pins σ H s → tt σ H Q →
    wpAny (model Y.prog Y.w) Y.A (forIn ifs true fun c r => if r = true then do let ok ← isTrue c Y.env (eval c Y.env); pure (ForInStep.yield ok) else pure (ForInStep.yield r)) (TP Y pins σ Q) Y.xe s
def tYes : TT := fun _ H Q => Q true H
theorem pif_nil {Y : Cx} : PIf Y [] tYes := fun _ _ _ H _ I h => wpAny_tests_nil ⟨H, I, h⟩
section
variable {prog : Program} {w : World} {A : Around} {R : Result → Shared → Prop} {s : Shared}
theorem compLoop_go {elt target iter : Expr} {ifs : List Expr} {scope : Scope} {pos : Pos} {it acc : Value} {env : Env} (J : Nat → Shared → Prop)
    (turn : ∀ n s, J n s → wpAny (model prog w) A (pyNext it) (fun r s₁ => match r with
      | none => R (.ok .next) s₁
      | some v => wpAny (model prog w) A (letOwnedTupleGo target it v) (fun _ s₀ => wpAny (model prog w) A (assign target env v) (fun _ s₂ =>
          wpAny (model prog w) A (forIn ifs true fun c r => if r = true then do let ok ← isTrue c env (eval c env); pure (ForInStep.yield ok) else pure (ForInStep.yield r)) (fun ok s₃ =>
            if ok = true then wpAny (model prog w) A (eval elt env) (fun x s₄ =>
              wpAny (model prog w) A (call (.builtin "list.append") [acc, x]) (fun _ s₅ => ∃ m, m < n ∧ J m s₅) (fun _ _ => False) s₄) (fun _ _ => False) s₃
            else ∃ m, m < n ∧ J m s₃) (fun _ _ => False) s₂) (fun _ _ => False) s₀) (fun _ _ => False) s₁) (fun _ _ => False) s)
    (n : Nat) (h : J n s) :
    codeAny (model prog w) A (.compLoop (.ListComp elt [⟨target, iter, ifs, 0⟩] scope pos) 0 it acc env) R s := by
  refine codeAny_loop rfl J (fun n s hJ => ?_) n h
  show wpAny _ A ((compTurn (.ListComp elt [⟨target, iter, ifs, 0⟩] scope pos) 0 it acc env).onRaise (fun x => do noteFrame x env; theTreesLotGoes x)) _ _ s
  refine wpAny_noted ?_
  rw [compTurn_list]
  have no : ∀ {α : Type} {m : Sem α} {Q : α → Shared → Prop} {E' : Value → Shared → Prop} {s' : Shared}, wpAny (model prog w) A m Q (fun _ _ => False) s' → wpAny (model prog w) A m Q E' s' := fun hm => wpAny_mono hm (fun _ _ q => q) fun _ _ f => f.elim
  refine wpAny_bind (wpAny_standAt (wpAny_bind (no (wpAny_mono (turn n s hJ) (fun r s₁ h₁ => ?_) fun _ _ h' => h'))))
  cases r with
  | none => exact wpAny_pure h₁
  | some v =>
    refine wpAny_bind (no (wpAny_mono h₁ (fun _ s₀ h₀ => wpAny_bind (no (wpAny_mono h₀ (fun _ s₂ h₂ => wpAny_bind (no (wpAny_mono h₂ (fun ok s₃ h₃ => ?_) fun _ _ h' => h'))) fun _ _ h' => h'))) fun _ _ h' => h'))
    cases ok with
    | false => exact wpAny_pure ⟨rfl, h₃⟩
    | true =>
      exact wpAny_bind (wpAny_bind (no (wpAny_mono h₃ (fun x s₄ h₄ => wpAny_bind (no (wpAny_mono h₄ (fun _ s₅ h₅ => wpAny_pure (wpAny_pure ⟨rfl, h₅⟩)) fun _ _ h' => h'))) fun _ _ h' => h')))
end
def Own (own : Nat) (g : TG) : Prop := ∀ v σ H Q, g v σ H Q → g v σ H fun σ4 H4 => Q σ4 H4 ∧ σ4.length = σ.length ∧ ∀ i, own ≤ i → σ4[i]? = σ[i]?
theorem own_name {own i : Nat} (h : i < own) : Own own (gName i) := fun v σ H Q q => ⟨q, by simp, fun j hj => List.getElem?_set_ne (by omega)⟩
def tComp (own : Nat) (fr : List Nat) (wi : TI) (g : TG) (tt : TT) (te : TE) : TE := fun σ H Q => wi σ H fun J H1 => ∀ p, H1 p = none → ∃ W : Nat → Nat → List V → Hp → Prop,
  (∃ m, W 0 m [] (upd H1 p (.lst []))) ∧ ∀ i m acc H2, W i m acc H2 → (J.stop i H2 ∧ Q (.ref p) H2) ∨ (J.go i H2 ∧ ∀ x H3, J.yld i H2 x H3 → g x (blkSt own fr σ) H3 fun σ4 H4 => tt σ4 H4 fun ok H5 =>
    if ok = true then te σ4 H5 fun v H6 => H6 p = some (.lst acc) ∧ acc.length < sizeLine ∧ ∃ m', m' < m ∧ W (i + 1) m' (acc ++ [v]) (upd H6 p (.lst (acc ++ [v])))
    else ∃ m', m' < m ∧ W (i + 1) m' acc H5)
theorem blk_inv {X : Cx} {scope : Scope} {N' : List Str} {own : Nat} {fr : List Nat} {pins : List (Addr × Obj)} {σ : L2.St} {H3 : Hp} {s3 : Shared} {h4 : Heap} {fp : List Addr} {t4 : Nat} {m : Str → Option Value} (S : BlkScope X N' own fr scope)
    (I3 : Inv X pins σ H3 s3) (hfp : ∀ b ∈ fp, FpOk X pins H3 b ∧ b < s3.heap.objs.size) (keep : ∀ b o, s3.heap.get? b = some o → h4.get? b = some o) (hns : h4.Ns s3.heap.objs.size m) :
    Inv (blkCx X N' scope s3 H3 fp) [] (blkSt own fr σ) H3 { s3 with heap := h4, toks := t4 } := by
  have hcs : ∀ x ∈ scope.names, x.2 = .free → ∃ c, X.env.cells.lookup x.1 = some c := fun x hx e => I3.ok.has x.1 (S.free x hx e)
  have snd : ∀ x c, (closedC X.env scope.names []).lookup x = some c → X.env.cells.lookup x = some c := closedC_sound _ _ hcs fun x c e => by simp at e
  have ok : (blkCx X N' scope s3 H3 fp).Ok := by
    refine ⟨I3.ok.mod, S.kind, I3.ok.glob, I3.ok.blt, Nat.le_refl _, fun x y c e1 e2 => I3.ok.inj x y c (snd x c e1) (snd y c e2), fun x hx => closedC_has _ _ (of_relabel S.nocell hx), fun x c z => (by cases z), I3.ok.hd, I3.ok.frames, .inl rfl,
      fun b hb => ⟨Nat.ne_of_lt (hfp b hb).2, fun x c e => (hfp b hb).1.2.2.2.2.1 x c (snd x c e)⟩, I3.bs, Nat.le_trans I3.ok.bsz I3.sz, fun b o e hb => ?_, fun b hb hz => ?_, I3.stack, I3.stkFree⟩
    · rcases (hfp b hb).1.2.2.2.1 with z | z
      · exact I3.ok.noex b o e z
      · exact absurd (Nat.lt_of_lt_of_le (Heap.lt_size e) I3.ok.bsz) (Nat.not_lt.mpr z)
    · rcases List.mem_cons.mp (I3.stkSub b hz) with z | z
      · exact (hfp b hb).1.2.1 z
      · exact (hfp b hb).1.2.2.1 z
  refine ⟨ok, rfl, I3.bare, Un.kept keep, ⟨m, hns, fun i x v h1 h2 h3 => ?_⟩, fun x c e => ?_, I3.hok.fresh (Nat.le_refl _), fun x c e => I3.freeC x c (snd x c e), fun p hp => ?_, I3.hok.kept keep, ?_⟩
  · have h1 : N'[i]? = some x := h1
    have hi : ¬ i < own := fun z => by
      unfold blkSt at h2
      rw [List.getElem?_append_left (by simpa using z), List.getElem?_replicate] at h2
      split at h2 <;> cases h2
    obtain ⟨j, rfl⟩ : ∃ j, i = own + j := ⟨i - own, by omega⟩
    unfold blkSt at h2
    rw [List.getElem?_append_right (by simp), List.length_replicate, Nat.add_sub_cancel_left, List.getElem?_map] at h2
    cases ek : fr[j]? with
    | none => rw [ek] at h2; cases h2
    | some k =>
      rw [ek] at h2
      have h2 : (σ[k]?).join = some v := Option.some.inj h2
      have hσ : σ[k]? = some (some v) := by
        cases q : σ[k]? with
        | none => rw [q] at h2; cases h2
        | some w' => rw [q] at h2; exact congrArg some h2
      obtain ⟨x', e1, e2, e3⟩ := S.fr j k ek
      rw [h1] at e1
      cases e1
      have mem := PySem.mem_of_lookup e3
      have hk := S.free _ mem rfl
      obtain ⟨m3, hn3, hl3⟩ := I3.loc
      obtain ⟨u, r, look⟩ := hl3 k x v e2 hσ (.inr hk)
      rcases look with ⟨q, _⟩ | ⟨q, c, hc, o, ho, hd⟩
      · rcases hk with z | z
        · have z : X.env.kindOf x = some .cell := z
          rw [z] at q; cases q
        · have z : X.env.kindOf x = some .free := z
          rw [z] at q; cases q
      · obtain ⟨c', e'⟩ := closedC_has (env := X.env) scope.names [] mem
        have e'' := snd x c' e'
        rw [hc] at e''
        cases e''
        exact ⟨u, r, .inr ⟨relabel_free e3, c, e', o, keep _ _ ho, hd⟩⟩
  · obtain ⟨v, o, ho, hd⟩ := I3.cell x c (snd x c e)
    exact ⟨v, o, keep _ _ ho, hd⟩
  · obtain ⟨q1, q2, q3, q4, q5⟩ := I3.pin p (List.mem_append_left _ (by simpa using hp))
    refine ⟨keep _ _ q1, q2, Nat.ne_of_lt (Heap.lt_size q1), fun z => ?_, q5⟩
    rcases List.mem_cons.mp (I3.stkSub _ z) with z | z
    · exact q3 z
    · exact q4 z
  · show (blkSt own fr σ).length = N'.length
    unfold blkSt
    rw [S.len, List.length_append, List.length_replicate, List.length_map]
theorem pe_comp {X : Cx} {tg iter elt : Expr} {ifs : List Expr} {scope : Scope} {pos : Pos} {wi : TI} {g : TG} {tt : TT} {te : TE} {N' : List Str} {own : Nat} {fr : List Nat} (hc : X.calm = true)
    (S : BlkScope X N' own fr scope) (hi : PI X tg iter wi) (ho : Own own g) (hg : ∀ s3 H3 fp, PG (blkCx X N' scope s3 H3 fp) tg g) (hf : ∀ s3 H3 fp, PIf (blkCx X N' scope s3 H3 fp) ifs tt) (he : ∀ s3 H3 fp, PE (blkCx X N' scope s3 H3 fp) elt te)
    (hs : ∀ x, foldedSetIterable iter X.env x = pure x := by intro _; rfl) : PE X (.ListComp elt [⟨tg, iter, ifs, 0⟩] scope pos) (tComp own fr wi g tt te) := by
  intro pins s σ H Q I h
  have hcs : ∀ x ∈ scope.names, x.2 = .free → ∃ c, X.env.cells.lookup x.1 = some c := fun x hx e => I.ok.has x.1 (S.free x hx e)
  rw [eval_ListComp]
  refine wpAny_comprehension_free (use := none) rfl hs (closedC_eq hcs) S.kind S.loc ?_
  refine thn (hi pins s σ H _ I h) fun v s1 h1 => thn h1 fun itv s2 h2 => ?_
  obtain ⟨it, fp, tn, J, H2, e, I2, T, st2, f2, h2⟩ := h2
  subst e
  refine wpAny_newObj_type (hd := by size_fits) (wpAny_newFunctionEnv S.nocell (by intro y hy; simp at hy) (fun h4 hns hsb => ?_) S.kind)
  have hp0 := I2.hok.fresh (Nat.le_refl s2.heap.objs.size)
  obtain ⟨W, ⟨m0, w0⟩, turn⟩ := h2 _ hp0
  have I3 : Inv X pins σ (upd H2 s2.heap.objs.size (.lst [])) { s2 with heap := s2.heap.push { cls := .type "list", dict := none, data := .seq ([] : List Value).toArray }, toks := s2.toks } := I2.lnew .nil (Nat.zero_le _)
  have lt2 : ∀ b ∈ fp, b < s2.heap.objs.size := fun b hb => let ⟨o, e, _⟩ := T.obj _ _ st2 b hb; Heap.lt_size e
  have up2 : ∀ b o, s2.heap.get? b = some o → ∀ ob : Obj, (s2.heap.push ob).get? b = some o := fun b o e ob => Heap.get?_push_of_some _ e
  have sz3 : (s2.heap.push { cls := .type "list", dict := none, data := .seq ([] : List Value).toArray }).objs.size = s2.heap.objs.size + 1 := Heap.size_push ..
  revert hns hsb I3
  generalize e3 : s2.heap.push { cls := .type "list", dict := none, data := .seq ([] : List Value).toArray } = h3 at sz3 ⊢
  intro hns hsb I3
  have keep : ∀ b o, h3.get? b = some o → h4.get? b = some o := fun b o e => (hsb.2 b (Nat.ne_of_lt (Heap.lt_size e))).trans (Heap.get?_push_of_some _ e)
  have fp3 : ∀ b ∈ fp, FpOk X pins (upd H2 s2.heap.objs.size (.lst [])) b ∧ b < h3.objs.size := fun b hb => by
    refine ⟨⟨?_, (f2 b hb).2⟩, by rw [sz3]; exact Nat.lt_succ_of_lt (lt2 b hb)⟩
    rw [upd_ne (Nat.ne_of_lt (lt2 b hb))]
    exact (f2 b hb).1
  have I4 := blk_inv (t4 := s2.toks + ([] : List (Str × Value)).length) S I3 fp3 keep hns
  have tn4 : tn 0 h4 := T.keep _ _ _ st2 fun b hb o e => keep b o (by rw [← e3]; exact up2 b o e _)
  have stat : ∀ {H' : Hp}, (∀ b ∈ fp, H' b = none) → ∀ b ∈ fp, FpOk (blkCx X N' scope { s2 with heap := h3, toks := s2.toks } (upd H2 s2.heap.objs.size (.lst [])) fp) [] H' b := fun {H'} hn b hb =>
    ⟨hn b hb, Nat.ne_of_lt (fp3 b hb).2, fun z => I4.ok.exfs b hb z, .inl hb, (I4.ok.exf b hb).2, fun p hp => (f2 b hb).2.2.2.2.2 p (List.mem_append_left _ (by simpa using hp))⟩
  have loop : ∀ sx : Shared, Inv (blkCx X N' scope { s2 with heap := h3, toks := s2.toks } (upd H2 s2.heap.objs.size (.lst [])) fp) [] (blkSt own fr σ) (upd H2 s2.heap.objs.size (.lst [])) sx → tn 0 sx.heap →
      codeAny (model X.prog X.w) X.A (.compLoop (.ListComp elt [⟨tg, iter, ifs, 0⟩] scope pos) 0 (.ref it) (.ref s2.heap.objs.size) (blkEnv X scope h3.objs.size)) (compPost (model X.prog X.w) X.A X.xe none (EP X pins σ Q) (.ref s2.heap.objs.size) h3.objs.size) sx := by
    intro sx Ix tx
    refine compLoop_go (fun n s' => ∃ i acc H', Inv (blkCx X N' scope { s2 with heap := h3, toks := s2.toks } (upd H2 s2.heap.objs.size (.lst [])) fp) [] (blkSt own fr σ) H' s' ∧ tn i s'.heap ∧ (∀ b ∈ fp, H' b = none) ∧ W i n acc H') ?_ m0 ⟨0, [], _, Ix, tx, fun b hb => (fp3 b hb).1.1, w0⟩
    rintro n s5 ⟨i, acc, H5, I5, st5, fr5, w5⟩
    rcases turn i n acc H5 w5 with ⟨stop, qn⟩ | ⟨go, step⟩
    · refine thn (T.done (blkCx X N' scope { s2 with heap := h3, toks := s2.toks } (upd H2 s2.heap.objs.size (.lst [])) fp) rfl rfl rfl hc i [] s5 _ H5 (fun _ _ => False) I5 (stat fr5) st5 stop) fun r s6 ⟨hr, I6⟩ => ?_
      subst hr
      obtain ⟨m6, hm6, _⟩ := id I6.loc
      refine ⟨m6, hm6, fun h7 hs7 => ⟨.ref s2.heap.objs.size, H5, ?_, rfl, qn⟩⟩
      exact I3.call' (s' := { s6 with heap := h7 }) (ch := fp) I6.os (un_sameBut I6.base (Nat.le_refl _) hs7) (hok_sameBut I6.hok I6.free hs7) I6.bare fun b hb => ⟨(f2 b hb).2.2.2.1, (f2 b hb).2.1, (f2 b hb).2.2.2.2.1, (f2 b hb).2.2.2.2.2⟩
    · refine thn (T.item (blkCx X N' scope { s2 with heap := h3, toks := s2.toks } (upd H2 s2.heap.objs.size (.lst [])) fp) rfl rfl rfl hc i [] s5 _ H5 (fun _ _ => False) I5 (stat fr5) st5 go) fun r s6 ⟨u, hr, h6⟩ => ?_
      subst hr
      refine thn h6 fun _ s7 ⟨x, H7, I7, r7, y7, st7, fr7⟩ => ?_
      have I7' := I7.pinned (stat fr7) (T.obj _ _ st7)
      refine thn (hg _ _ _ _ s7 _ H7 x u _ I7' r7 (ho _ _ _ _ (step x H7 y7))) fun _ s8 ⟨σ8, H8, I8, q8, l8, k8⟩ => ?_
      have again : ∀ {H9 : Hp} {s9 : Shared}, Inv (blkCx X N' scope { s2 with heap := h3, toks := s2.toks } (upd H2 s2.heap.objs.size (.lst [])) fp) ([] ++ pinsAt fp s7.heap) σ8 H9 s9 →
          Inv (blkCx X N' scope { s2 with heap := h3, toks := s2.toks } (upd H2 s2.heap.objs.size (.lst [])) fp) [] (blkSt own fr σ) H9 s9 ∧ tn (i + 1) s9.heap ∧ ∀ b ∈ fp, H9 b = none := fun {H9 s9} I9 => by
        refine ⟨I9.unpinned.weak l8.symm fun j v e => ?_, T.keep _ _ _ st7 fun b hb o e => (I9.pin (b, o) (List.mem_append_right _ (List.mem_append_right _ (mem_pinsAt hb e)))).1, fun b hb => ?_⟩
        · have hj : own ≤ j := by
            refine Nat.le_of_not_lt fun z => ?_
            unfold blkSt at e
            rw [List.getElem?_append_left (by simpa using z), List.getElem?_replicate] at e
            split at e <;> cases e
          rw [k8 j hj]
          exact e
        · obtain ⟨o, e, _⟩ := T.obj _ _ st7 b hb
          exact (I9.pin (b, o) (List.mem_append_right _ (List.mem_append_right _ (mem_pinsAt hb e)))).2.1
      refine thn (hf _ _ _ _ s8 σ8 H8 _ I8 q8) fun ok s9 ⟨H9, I9, q9⟩ => ?_
      cases ok with
      | false =>
        obtain ⟨m', hm', w9⟩ := q9
        obtain ⟨a1, a2, a3⟩ := again I9
        exact ⟨m', hm', i + 1, acc, H9, a1, a2, a3, w9⟩
      | true =>
        refine thn (he _ _ _ _ s9 σ8 H9 _ I9 q9) fun y s10 ⟨v, H10, I10, r10, hD10, hl10, m', hm', w10⟩ => ?_
        refine thn (mt_append _ s10 σ8 H10 (.ref s2.heap.objs.size) [v] (.ref s2.heap.objs.size) [y] (fun _ Hn => Hn = upd H10 s2.heap.objs.size (.lst (acc ++ [v]))) I10 rfl (.cons r10 .nil) ⟨_, acc, v, rfl, rfl, hD10, hl10, rfl⟩) fun _ s11 ⟨_, H11, I11, _, e11⟩ => ?_
        subst e11
        obtain ⟨a1, a2, a3⟩ := again I11
        exact ⟨m', hm', i + 1, acc ++ [v], _, a1, a2, a3, w10⟩
  exact codeAny_compStart_list (loop _ I4 tn4) (wpAny_mono (T.self X.A 0 _ (fun v s' => v = .ref it ∧ s' = _) (fun _ _ => False) tn4 ⟨rfl, rfl⟩) (fun v s' ⟨e1, e2⟩ => by subst e1; subst e2; exact loop _ I4 tn4) fun _ _ f => f.elim)
def Nx (n i : Nat) (P : Prop) : Prop := ∃ m', m' < n - i ∧ m' = n - (i + 1) ∧ i + 1 ≤ n ∧ P
theorem nx {n i : Nat} {P : Prop} (h : i < n) (p : P) : Nx n i P := ⟨n - (i + 1), by omega, rfl, h, p⟩
theorem comp_by {J : It} {p : Addr} {H1 : Hp} {g : TG} {tt : TT} {te : TE} {b : L2.St} {Q : VK} (n : Nat) (Pv : Nat → List V → Hp → Prop) (h0 : Pv 0 [] (upd H1 p (.lst [])))
    (hgo : ∀ i acc H2, i < n → Pv i acc H2 → J.go i H2 ∧ ∀ x H3, J.yld i H2 x H3 → g x b H3 fun σ4 H4 => tt σ4 H4 fun ok H5 =>
      if ok = true then te σ4 H5 fun v H6 => H6 p = some (.lst acc) ∧ acc.length < sizeLine ∧ Nx n i (Pv (i + 1) (acc ++ [v]) (upd H6 p (.lst (acc ++ [v])))) else Nx n i (Pv (i + 1) acc H5))
    (hd : ∀ acc H2, Pv n acc H2 → J.stop n H2 ∧ Q (.ref p) H2) :
    ∃ W : Nat → Nat → List V → Hp → Prop, (∃ m, W 0 m [] (upd H1 p (.lst []))) ∧ ∀ i m acc H2, W i m acc H2 → (J.stop i H2 ∧ Q (.ref p) H2) ∨ (J.go i H2 ∧ ∀ x H3, J.yld i H2 x H3 → g x b H3 fun σ4 H4 => tt σ4 H4 fun ok H5 =>
      if ok = true then te σ4 H5 fun v H6 => H6 p = some (.lst acc) ∧ acc.length < sizeLine ∧ ∃ m', m' < m ∧ W (i + 1) m' (acc ++ [v]) (upd H6 p (.lst (acc ++ [v]))) else ∃ m', m' < m ∧ W (i + 1) m' acc H5) := by
  refine ⟨fun i m acc H => m = n - i ∧ i ≤ n ∧ Pv i acc H, ⟨n, by simp, Nat.zero_le _, h0⟩, ?_⟩
  rintro i m acc H2 ⟨rfl, hi, w⟩
  by_cases hlt : i < n
  · exact .inr (hgo i acc H2 hlt w)
  · obtain rfl : i = n := by omega
    exact .inl (hd acc H2 w)
end L3
end
section
namespace L3
open PySem L2
section
variable {prog : Program} {w : World} {A : Around} {E : Value → Shared → Prop} {s : Shared}
end
structure ZApart (z TI TO i1 i2 : Nat) (f1 f2 : List Nat) : Prop where
  TIz : TI ≠ z
  TOz : TO ≠ z
  TITO : TI ≠ TO
  TI1 : TI ≠ i1
  TI2 : TI ≠ i2
  TO1 : TO ≠ i1
  TO2 : TO ≠ i2
  i1z : i1 ≠ z
  i2z : i2 ≠ z
  zf1 : z ∉ f1
  zf2 : z ∉ f2
  Tf1 : TO ∉ f1
  Tf2 : TO ∉ f2
  i2f1 : i2 ∉ f1
  i1f2 : i1 ∉ f2
section
variable {prog : Program} {w : World} {A : Around} {E : Value → Shared → Prop} {s : Shared}
variable {z TI TO i1 i2 : Addr} {f1 f2 : List Addr} {n1 n2 : Nat} {P1 P2 : Nat → Value → Prop} {S1 S2 : Nat → Heap → Prop}
end
section
variable {prog : Program} {w : World} {A : Around} {E : Value → Shared → Prop} {s : Shared}
end
end L3
end
section
namespace L3
open PySem PySem.Spec PyProof.Rows L2
section
variable {X : Cx} {pins : List (Addr × Obj)} {σ : L2.St} {H : Hp} {s : Shared} {h' : Heap}
theorem turnedNew {t' : Nat} {ch : List Addr} {T : Addr} {o : HO} (I : Inv X pins σ H s) (k : ∀ b ob, b ∉ ch → s.heap.get? b = some ob → h'.get? b = some ob) (hf : ∀ b ∈ ch, FpOk X pins H b) (hT : s.heap.objs.size ≤ T)
    (new : ObjOk X.prog X.w (upd H T o) h' T o) : Inv X pins σ (upd H T o) { s with heap := h', toks := t' } := by
  have hn : H T = none := I.hok.fresh hT
  have nch : ∀ b u, H b = some u → b ∉ ch := fun b u e z => by rw [(hf b z).1] at e; cases e
  refine I.step (g' := s.gens) (d' := s.drawn) (ch := ch) (fun b hb => ⟨(hf b hb).2.2.2.1, (hf b hb).2.1, (hf b hb).2.2.2.2.1, (hf b hb).2.2.2.2.2⟩) (fun b ob _ _ hc e _ => k b ob hc e) (fun b ob _ _ hc e _ => ⟨ob.slots, k b ob hc e⟩)
    (fun b ob _ e n => by rw [upd_ne (Nat.ne_of_lt (Nat.lt_of_lt_of_le (Heap.lt_size e) hT))]; exact n) (fun b ob hc e => ⟨ob, k b ob hc e⟩) (fun b xs e => by rw [upd_ne (ne_of_none e hn)]; exact e)
    (fun b ob u e => by rw [upd_ne (ne_of_none e hn)]; exact e) (fun b ps e => (by rw [upd_ne (ne_of_none e hn), e])) (fun m hm => ?_) (fun b u e => ?_) I.bare
  · obtain ⟨ob, es, ep, ho, r⟩ := hm
    exact ⟨ob, es, ep, k _ ob (fun z => (hf _ z).2.1 rfl) ho, r⟩
  · by_cases hb : b = T
    · subst hb
      rw [upd_same] at e
      cases e
      exact new
    · rw [upd_ne hb] at e
      refine (I.hok b u e).stay (fun c v hc q => k c v ?_ q) (fun c q => by rw [upd_ne (ne_of_none q hn)]; exact q) fun c xs q => by rw [upd_ne (ne_of_none q hn)]; exact q
      rcases hc with z | z
      · rw [z]; exact nch b u e
      · exact nch c _ z
theorem turnedL {t' : Nat} {ch : List Addr} (I : Inv X pins σ H s) (k : ∀ b ob, b ∉ ch → s.heap.get? b = some ob → h'.get? b = some ob) (hf : ∀ b ∈ ch, FpOk X pins H b) : Inv X pins σ H { s with heap := h', toks := t' } := by
  have nch : ∀ b u, H b = some u → b ∉ ch := fun b u e z => by rw [(hf b z).1] at e; cases e
  refine I.step (g' := s.gens) (d' := s.drawn) (ch := ch) (fun b hb => ⟨(hf b hb).2.2.2.1, (hf b hb).2.1, (hf b hb).2.2.2.2.1, (hf b hb).2.2.2.2.2⟩) (fun b ob _ _ hc e _ => k b ob hc e) (fun b ob _ _ hc e _ => ⟨ob.slots, k b ob hc e⟩)
    (fun b ob _ e n => n) (fun b ob hc e => ⟨ob, k b ob hc e⟩) (fun b xs e => e) (fun b ob u e => e) (fun b ps e => (by rw [e])) (fun m hm => ?_) (fun b u e => ?_) I.bare
  · obtain ⟨ob, es, ep, ho, r⟩ := hm
    exact ⟨ob, es, ep, k _ ob (fun z => (hf _ z).2.1 rfl) ho, r⟩
  · refine (I.hok b u e).stay (fun c v hc q => k c v ?_ q) (fun _ q => q) fun _ _ q => q
    rcases hc with z | z
    · rw [z]; exact nch b u e
    · exact nch c _ z
end
structure ZRec (a b z TI TO i1 i2 : Addr) (i : Nat) (h : Heap) : Prop where
  z : IsZip h z TI TO .none
  TI : IsPair h TI (.ref i1) (.ref i2)
  TO : ∃ u v, IsPair h TO u v
  i1 : h.IsTupleIter i1 a i
  i2 : h.IsTupleIter i2 b i
end L3
end
section
namespace L3
open PySem PySem.Spec PyProof.Rows L2
section
variable {X : Cx}
theorem call_isinst : CallR X (.builtin "isinstance") (fun xs H Q => ∃ x t n b, xs = [x, .ty n] ∧ TyOf X.K H x t ∧ PySem.W.kitOne X.K t (.type n) = some b ∧ Q (.bl b) H) := by
  intro pins s σ H xs us Q I r h
  obtain ⟨x, t, n, b, rfl, ty, e, q⟩ := h
  obtain ⟨u, v, rfl, ru, rv⟩ := r.two
  obtain rfl : v = Value.type n := rv
  exact isinst_ok I ru ty e fun tk => ⟨.bl b, H, I.tok tk, rfl, q⟩
end
structure TabK (K : PySem.W.Frag) (a : Addr) (D : List (Str × V)) : Prop where
  sys : (a == sysModules) = false
  ex : ∃ o es ep, K.lookup a = some o ∧ o.ExactDict ∧ o.data = .dict es ep ∧ KTD.Rows RelV es.toList D
section
variable {X : Cx} {pins : List (Addr × Obj)} {σ : L2.St} {H : Hp} {s : Shared} {a : Addr} {D : List (Str × V)} {k : Str} {tk : Tok} {A : Around} {E : Value → Shared → Prop}
end
section
variable {X : Cx}
end
end L3
end
section
namespace KM
open PySem
inductive D where
  | non
  | bl (b : Bool)
  | int (i : Int)
  | str (x : Str)
  | tup (ds : List D)
deriving Inhabited
mutual
def knots : D → Nat
  | .tup ds => 1 + knotsL ds
  | .non => 0
  | .bl _ => 0
  | .int _ => 0
  | .str _ => 0
def knotsL : List D → Nat
  | [] => 0
  | d :: r => knots d + knotsL r
end
mutual
def depth : D → Nat
  | .tup ds => 1 + depthL ds
  | .non => 0
  | .bl _ => 0
  | .int _ => 0
  | .str _ => 0
def depthL : List D → Nat
  | [] => 0
  | d :: r => max (depth d) (depthL r)
end
def isTup : D → Bool
  | .tup _ => true
  | _ => false
def tk : D → List D
  | .tup ds => ds.filter isTup
  | _ => []
end KM
end
section
namespace L3
open PySem PySem.Spec PyProof.Rows L2 KM
mutual
/-- v stands for d on the heap H -/
def Rep (H : Hp) : D → V → Prop
  | .non, v => v = .non
  | .bl b, v => v = .bl b
  | .int i, v => v = .int i
  | .str x, v => v = .str x ∧ x.length ≤ 1000
  | .tup ds, v => ∃ a vs, v = .ref a ∧ H a = some (.tup vs) ∧ Reps H ds vs
def Reps (H : Hp) : List D → List V → Prop
  | [], vs => vs = []
  | d :: ds, vs => ∃ v r, vs = v :: r ∧ Rep H d v ∧ Reps H ds r
end
mutual
theorem Rep.mono {H H' : Hp} (h : Same H H') : ∀ {d : D} {v : V}, Rep H d v → Rep H' d v
  | .non, _, r => r
  | .bl _, _, r => r
  | .int _, _, r => r
  | .str _, _, r => r
  | .tup _, _, ⟨a, vs, e, q, r⟩ => ⟨a, vs, e, h _ _ q, Reps.mono h r⟩
theorem Reps.mono {H H' : Hp} (h : Same H H') : ∀ {ds : List D} {vs : List V}, Reps H ds vs → Reps H' ds vs
  | [], _, r => r
  | _ :: _, _, ⟨v, r, e, q, t⟩ => ⟨v, r, e, Rep.mono h q, Reps.mono h t⟩
end
theorem Reps.length {H : Hp} : ∀ {ds : List D} {vs : List V}, Reps H ds vs → vs.length = ds.length
  | [], _, r => by
    have r : _ = [] := r
    rw [r]; rfl
  | _ :: _, _, ⟨v, r, e, q, t⟩ => by
    rw [e, List.length_cons, List.length_cons, Reps.length t]
theorem Reps.get {H : Hp} : ∀ {ds : List D} {vs : List V} {i : Nat} {d : D}, Reps H ds vs → ds[i]? = some d → ∃ v, vs[i]? = some v ∧ Rep H d v
  | [], _, _, _, _, e => by simp at e
  | d :: _, _, 0, _, ⟨v, r, e, q, t⟩, h => by
    simp at h
    subst h
    exact ⟨v, by rw [e]; rfl, q⟩
  | _ :: ds, _, i + 1, d, ⟨v, r, e, q, t⟩, h => by
    obtain ⟨u, h1, h2⟩ := Reps.get (i := i) t (by simpa using h)
    exact ⟨u, by rw [e]; simpa using h1, h2⟩
theorem Reps.append {H : Hp} : ∀ {ds es : List D} {vs us : List V}, Reps H ds vs → Reps H es us → Reps H (ds ++ es) (vs ++ us)
  | [], _, _, _, r, q => by
    have r : _ = [] := r
    subst r
    exact q
  | _ :: _, _, _, _, ⟨v, r, e, p, t⟩, q => by
    subst e
    exact ⟨v, r ++ _, rfl, p, Reps.append t q⟩
theorem Reps.one {H : Hp} {d : D} {v : V} (r : Rep H d v) : Reps H [d] [v] := ⟨v, [], rfl, r, rfl⟩
theorem Reps.snoc {H : Hp} {ds : List D} {vs : List V} {d : D} {v : V} (r : Reps H ds vs) (q : Rep H d v) : Reps H (ds ++ [d]) (vs ++ [v]) := r.append (Reps.one q)
def tyD : D → String
  | .non => "NoneType"
  | .bl _ => "bool"
  | .int _ => "int"
  | .str _ => "str"
  | .tup _ => "tuple"
theorem Rep.ty {K : PySem.W.Frag} {H : Hp} : ∀ {d : D} {v : V}, Rep H d v → TyOf K H v (.type (tyD d))
  | .non, _, r => by cases (show _ = V.non from r); exact .non
  | .bl b, _, r => by cases (show _ = V.bl b from r); exact .bl b
  | .int i, _, r => by cases (show _ = V.int i from r); exact .int i
  | .str x, _, r => by cases (show _ = V.str x from r.1); exact .str x
  | .tup _, _, ⟨a, vs, e, q, _⟩ => by cases e; exact .tup q
def isStrD : D → Bool
  | .str _ => true
  | _ => false
def isBlD : D → Bool
  | .bl _ => true
  | _ => false
def isIntD : D → Bool
  | .bl _ => true
  | .int _ => true
  | _ => false
theorem kit_tup (K : PySem.W.Frag) (d : D) : PySem.W.kitOne K (.type (tyD d)) (.type "tuple") = some (isTup d) := by cases d <;> rfl
theorem kit_bl (K : PySem.W.Frag) (d : D) : PySem.W.kitOne K (.type (tyD d)) (.type "bool") = some (isBlD d) := by cases d <;> rfl
theorem kit_int (K : PySem.W.Frag) (d : D) : PySem.W.kitOne K (.type (tyD d)) (.type "int") = some (isIntD d) := by cases d <;> rfl
theorem same_new {H : Hp} {p : Addr} (h : H p = none) (o : HO) : Same H (upd H p o) := fun b u q => by rw [upd_ne (ne_of_none q h)]; exact q
end L3
end
section
namespace L3
open PySem PySem.Spec PyProof.Rows L2
def tSlS (te : TE) (tl th ts : TO) : TE := fun σ H Q => te σ H fun x H1 => tl σ H1 fun _ H2 => th σ H2 fun _ H3 => ts σ H3 fun st H4 => ∃ z, x = .str z ∧ z.length ≤ sizeLine ∧ st ≠ some 0 ∧ ∀ y : Str, y.length ≤ z.length → Q (.str y) H4
theorem part_of {u : Value} {o : Option Int} (p : IsPart u o) : ∃ q : Option (Int × Tok), u = partValue q ∧ q.map (·.1) = o := by
  cases p with
  | none => exact ⟨none, rfl, rfl⟩
  | int i t => exact ⟨some (i, t), rfl, rfl⟩
theorem pe_slS {X : Cx} {e : Expr} {lo hi st : Option Expr} {p2 pos : Pos} {te : TE} {tl th ts : TO} (he : PE X e te) (hl : PO X lo tl) (hu : PO X hi th) (ht : PO X st ts)
    (hb : ∀ o i, ∃ ops, subscripted (.Slice lo hi st p2) false o i = operate ops (getItem o i) := by intro o i; exact ⟨_, rfl⟩) : PE X (.Subscript e (.Slice lo hi st p2) pos) (tSlS te tl th ts) := by
  intro pins s σ H Q I h
  refine Subscript_ (thn (he pins s σ H _ I h) fun v s1 ⟨x, H1, I1, r1, q1⟩ => ?_)
  refine wpAny_Slice (thn (hl pins s1 σ H1 _ I1 q1) fun vl s2 ⟨l, H2, I2, pl, q2⟩ => thn (hu pins s2 σ H2 _ I2 q2) fun vu s3 ⟨u, H3, I3, pu, q3⟩ => thn (ht pins s3 σ H3 _ I3 q3) fun vt s4 ⟨t, H4, I4, pt, z, e1, hz, h0, q⟩ => ?_)
  subst e1
  obtain ⟨tk, rfl⟩ := r1
  obtain ⟨al, rfl, el⟩ := part_of pl
  obtain ⟨au, rfl, eu⟩ := part_of pu
  obtain ⟨at', rfl, et⟩ := part_of pt
  have I5 : Inv X pins σ H4 { s4 with heap := s4.heap.push { cls := .type "slice", data := .fields #[partValue al, partValue au, partValue at'] } } := I4.kept (t' := s4.toks) fun b ob q => Heap.get?_push_of_some _ q
  have hk : ((at'.map (·.1)).getD 1 == 0) = false := by
    rw [et]
    cases t with
    | none => rfl
    | some i => simpa using fun z => h0 (by rw [z])
  show wpAny (model X.prog X.w) X.A (subscriptTail e (.Slice lo hi st p2) (.str z tk) (.ref s4.heap.objs.size)) (EP X pins σ Q) X.xe _
  obtain ⟨ops, hb⟩ := hb (.str z tk) (.ref s4.heap.objs.size)
  refine tail_any (ops := ops) (T := "str") (typeIs_str _ _ _) PySem.F.slot_str_getitem.lookup (wpAny_getItem_str_slice (l := al) (u := au) (st := at') ⟨_, Heap.get?_push_size _ rfl, rfl, rfl⟩ hk ?_) hb
  have fin : ∀ y : Str, y.length ≤ z.length → ∀ t' k, EP X pins σ Q (.str y t') { s4 with heap := s4.heap.push { cls := .type "slice", data := .fields #[partValue al, partValue au, partValue at'] }, toks := k } := fun y hy t' k => ⟨.str y, H4, I5.tok k, ⟨t', rfl⟩, q y hy⟩
  unfold sliceMade
  split
  · exact fin z (Nat.le_refl _) _ _
  · have hy : (Str.mk ((slicePicked z al au at').filterMap (z.cps[·]?)).toArray).length ≤ z.length := by
      show (List.filterMap _ (slicePicked z al au at')).toArray.size ≤ z.length
      rw [List.size_toArray]
      refine Nat.le_trans (List.length_filterMap_le _ _) ?_
      exact sliceIndicesBy_le _ _ _ (by simpa using hk) z.length
    exact ⟨Nat.le_trans hy hz, fin _ hy _ _⟩
end L3
end
section
namespace L3
open PySem PySem.Spec PyProof.Rows L2
def tCut (t u : TS) : TS := fun D σ H => ∃ M : L2.St → Hp → Prop, t { D with nx := M } σ H ∧ ∀ σ' H', M σ' H' → u D σ' H'
theorem pss_cut {X : Cx} {st : Stmt} {rest : List Stmt} {t u : TS} (h1 : PS X st t) (h2 : PSs X rest u) : PSs X (st :: rest) (tCut t u) := by
  intro pins s σ H D I h
  obtain ⟨M, h, hM⟩ := h
  refine wpAny_execs_cons (thn (h1 pins s σ H { D with nx := M } I h) fun f s1 q => ?_)
  cases f with
  | next =>
    obtain ⟨σ', H', I', q⟩ := q
    exact h2 pins s1 σ' H' D I' (hM σ' H' q)
  | ret v => exact q
  | brk => exact q
  | cont => exact q
theorem for_by {J : It} {g : TG} {tb : TS} {D : Ends} {σ : L2.St} {H : Hp} (n : Nat) (Pv : Nat → L2.St → Hp → Prop) (h0 : Pv 0 σ H)
    (hgo : ∀ i σ H, i < n → Pv i σ H → J.go i H ∧ ∀ x H', J.yld i H x H' → g x σ H' fun σ2 H2 => tb { D with nx := Pv (i + 1), ct := Pv (i + 1), bk := D.nx } σ2 H2) (hd : ∀ σ H, Pv n σ H → J.stop n H ∧ D.nx σ H) :
    ∃ W : Nat → Nat → L2.St → Hp → Prop, (∃ m, W 0 m σ H) ∧ ∀ i m σ H, W i m σ H →
      (J.stop i H ∧ D.nx σ H) ∨ (J.go i H ∧ ∃ N : L2.St → Hp → Prop, (∀ σ' H', N σ' H' → ∃ m', m' < m ∧ W (i + 1) m' σ' H') ∧ ∀ x H', J.yld i H x H' → g x σ H' fun σ2 H2 => tb { D with nx := N, ct := N, bk := D.nx } σ2 H2) := by
  refine ⟨fun i m σ H => m = n - i ∧ i ≤ n ∧ Pv i σ H, ⟨n, by simp, Nat.zero_le _, h0⟩, ?_⟩
  rintro i m σ H ⟨rfl, hi, p⟩
  by_cases hlt : i < n
  · obtain ⟨g1, g2⟩ := hgo i σ H hlt p
    exact .inr ⟨g1, Pv (i + 1), fun σ' H' p' => ⟨n - (i + 1), by omega, rfl, hlt, p'⟩, g2⟩
  · obtain rfl : i = n := by omega
    exact .inl (hd σ H p)
def SameX (p : Addr) (H H' : Hp) : Prop := ∀ b o, b ≠ p → H b = some o → H' b = some o
theorem SameX.trans {p : Addr} {H H1 H2 : Hp} (a : SameX p H H1) (b : SameX p H1 H2) : SameX p H H2 := fun c o n h => b c o n (a c o n h)
theorem _root_.L2.Same.x {p : Addr} {H H' : Hp} (a : Same H H') : SameX p H H' := fun c o _ h => a c o h
theorem SameX.upd {p : Addr} {H : Hp} (o : HO) : SameX p H (upd H p o) := fun b u n h => by rw [upd_ne n]; exact h
mutual
theorem Rep.monoX {p : Addr} {H H' : Hp} (h : SameX p H H') (hp : ∀ vs, H p ≠ some (.tup vs)) : ∀ {d : KM.D} {v : V}, Rep H d v → Rep H' d v
  | .non, _, r => r
  | .bl _, _, r => r
  | .int _, _, r => r
  | .str _, _, r => r
  | .tup _, _, ⟨a, vs, e, q, r⟩ => ⟨a, vs, e, h _ _ (fun z => hp vs (by rw [← z]; exact q)) q, Reps.monoX h hp r⟩
theorem Reps.monoX {p : Addr} {H H' : Hp} (h : SameX p H H') (hp : ∀ vs, H p ≠ some (.tup vs)) : ∀ {ds : List KM.D} {vs : List V}, Reps H ds vs → Reps H' ds vs
  | [], _, r => r
  | _ :: _, _, ⟨v, r, e, q, t⟩ => ⟨v, r, e, Rep.monoX h hp q, Reps.monoX h hp t⟩
end
end L3
end
section
namespace L3
open PySem PySem.Spec PyProof.Rows L2
section
variable {prog : Program} {w : World} {A : Around} {E : Value → Shared → Prop} {s : Shared} {d : Addr} {o : Obj} {es : Array DictEntry} {ep : Nat} {hsh : Int}
end
section
variable {X : Cx} {pins : List (Addr × Obj)} {σ : L2.St} {H : Hp} {s : Shared} {a : Addr} {D : List (Str × V)} {A : Around} {E : Value → Shared → Prop}
end
end L3
end
section
namespace L3
open PySem L2
section
variable {prog : Program} {w : World} {A : Around} {E : Value → Shared → Prop} {s : Shared}
theorem nx_lst {it t : Addr} {i : Nat} {its : Array Value} {x : Value} {Q : Value → Shared → Prop} (gi : s.heap.IsListIter it t i) (gt : s.heap.IsList t its) (gx : its[i]? = some x)
    (hQ : ∀ h', h'.IsListIter it t (i + 1) → Heap.SameBut it s.heap h' → Q x { s with heap := h' }) : wpAny (model prog w) A (Builtin.SmallTypes.nextOf (.ref it)) Q E s := by
  obtain ⟨oi, ei, ci, di⟩ := id gi
  obtain ⟨ot, et, _, nt, dt⟩ := gt
  unfold Builtin.SmallTypes.nextOf
  refine wpAny_bind (wpAny_callSpecial?_slot (name := Str.ofString "__next__") gi.typeIs slot_listiter_next (wpAny_call_entry slot_listiter_next gi.typeIs entry_listiter_next ?_ (args_listiter_next _)))
  show wpAny (model prog w) _ (field (.ref it) 0 >>= _) _ _ s
  refine wpAny_bind (wpAny_field ei di (x := .ref t) rfl ?_)
  show wpAny (model prog w) _ (if (Value.ref t == Value.none) = true then _ else _) _ _ s
  rw [if_neg (show ¬ (Value.ref t == Value.none) = true from Bool.false_ne_true)]
  show wpAny (model prog w) _ (field (.ref it) 1 >>= _) _ _ s
  refine wpAny_bind (wpAny_field ei di (x := .int i 0) rfl ?_)
  show wpAny (model prog w) _ (seqItems? (.ref t) >>= _) _ _ s
  refine wpAny_bind (wpAny_seqItems et dt ?_)
  simp only [Int.toNat_natCast, gx]
  refine wpAny_bind (wpAny_setField ei di (by simp) (wpAny_pure ⟨x, rfl, wpAny_pure (hQ _ ?_ (Heap.SameBut.update ..))⟩))
  refine ⟨_, Heap.get?_update_self _ ei (Obj.isFreed_of_fields (Obj.data_mapFields di _)), (Obj.cls_mapFields ..).trans ci, ?_⟩
  rw [Obj.data_mapFields di]
  simp [rawInt]
theorem nx_lst_end {it t : Addr} {i : Nat} {its : Array Value} {Q : Value → Shared → Prop} (hb : HB s.heap A) (na : ∀ a, A.handled = some (.ref a) → a ≠ it) (gi : s.heap.IsListIter it t i) (gt : s.heap.IsList t its) (gx : its[i]? = none)
    (hE : ∀ h' e, Heap.ExtBut it s.heap h' → (∃ o, h'.get? e = some o ∧ o.cls = .type "StopIteration") → E (.ref e) { s with heap := h' }) : wpAny (model prog w) A (Builtin.SmallTypes.nextOf (.ref it)) Q E s := by
  obtain ⟨oi, ei, ci, di⟩ := id gi
  obtain ⟨ot, et, _, nt, dt⟩ := gt
  unfold Builtin.SmallTypes.nextOf
  refine wpAny_bind (wpAny_callSpecial?_slot (name := Str.ofString "__next__") gi.typeIs slot_listiter_next (wpAny_call_entry slot_listiter_next gi.typeIs entry_listiter_next ?_ (args_listiter_next _)))
  show wpAny (model prog w) _ (field (.ref it) 0 >>= _) _ _ s
  refine wpAny_bind (wpAny_field ei di (x := .ref t) rfl ?_)
  show wpAny (model prog w) _ (if (Value.ref t == Value.none) = true then _ else _) _ _ s
  rw [if_neg (show ¬ (Value.ref t == Value.none) = true from Bool.false_ne_true)]
  show wpAny (model prog w) _ (field (.ref it) 1 >>= _) _ _ s
  refine wpAny_bind (wpAny_field ei di (x := .int i 0) rfl ?_)
  show wpAny (model prog w) _ (seqItems? (.ref t) >>= _) _ _ s
  refine wpAny_bind (wpAny_seqItems et dt ?_)
  simp only [Int.toNat_natCast, gx]
  refine wpAny_bind (wpAny_rule (wpAny_bind (wpAny_setField ei di (by simp) ?_)))
  exact stop_made (A := A.in1) (hb.upd na) fun h' e k he => hE h' e (ext_upd k) he
end
theorem draws_lst {prog : Program} {w : World} {A : Around} (it t : Addr) (ne : t ≠ it) (na : ∀ a, A.handled = some (.ref a) → a ≠ it) (its : Array Value) :
    Draws prog w A it (it :: t :: hAdr A) its.size (fun i v => its[i]? = some v) (fun i h => h.IsListIter it t i ∧ h.IsList t its ∧ HB h A) where
  live := fun _ _ st => let ⟨o, ho, _⟩ := st.1; ⟨o, ho⟩
  frame := fun i h h' st hk => by
    obtain ⟨⟨o1, e1, r1⟩, ⟨o2, e2, r2⟩, hb⟩ := st
    exact ⟨⟨o1, hk it (by simp) o1 e1, r1⟩, ⟨o2, hk t (by simp) o2 e2, r2⟩, hb.frame fun b hb => hk b (by simp [hb])⟩
  item := fun i s Q E hi st hQ => by
    refine nx_lst st.1 st.2.1 (x := its[i]) (by simp [hi]) fun h' k1 k2 => ?_
    exact hQ _ h' s.toks (by simp [hi]) ⟨k1, st.2.1.extBut k2.extBut ne, st.2.2.mono fun a o ea eo => k2.extBut a o (na a ea) eo⟩ k2
  done := fun s Q E st hE => nx_lst_end st.2.2 na st.1 st.2.1 (by simp) hE
abbrev zl1 (h : Heap) (a : Addr) : Heap := h.push { cls := .type "list_iterator", data := .fields #[.ref a, .int 0 0] }
abbrev zl2 (h : Heap) (a b : Addr) : Heap := (zl1 h a).push { cls := .type "list_iterator", data := .fields #[.ref b, .int 0 0] }
abbrev zl3 (h : Heap) (a b : Addr) : Heap := (zl2 h a b).push { cls := .type "tuple", data := .seq #[.ref h.objs.size, .ref (zl1 h a).objs.size] }
abbrev zl4 (h : Heap) (a b : Addr) : Heap := (zl3 h a b).push { cls := .type "tuple", data := .seq #[.none, .none] }
abbrev zl5 (h : Heap) (a b : Addr) : Heap := (zl4 h a b).push { cls := .type "zip", data := .fields #[.none, .bool false, .bool false, .ref (zl2 h a b).objs.size, .ref (zl3 h a b).objs.size] }
theorem meets_zipL (a b : Addr) (xs ys : Array Value) :
    Meets (Builtin.«zip.__new__» ⟨[.type "zip", .ref a, .ref b], []⟩) (fun _ R s => s.heap.IsList a xs ∧ s.heap.IsList b ys ∧ R (.ok (.ret (.ref (zl4 s.heap a b).objs.size))) { s with heap := zl5 s.heap a b }) :=
  .of_wp fun prog w A R s h => by
    obtain ⟨hp, g, d, tk, os⟩ := s
    obtain ⟨k1, k2, h⟩ := h
    have hsub := sub_zip
    have t1 : Heap.IsList (Shared.heap ⟨hp, g, d, tk, os⟩) a xs := k1
    have t2 : Heap.IsList (Shared.heap ⟨hp.push { cls := .type "list_iterator", data := .fields #[.ref a, .int 0 0] }, g, d, tk, os⟩) b ys := Heap.IsList.push k2 _
    wp_walk using wpAny_pyIter_list t1, wpAny_pyIter_list t2
    exact ⟨_, rfl, h⟩
section
variable {prog : Program} {w : World} {A : Around} {E : Value → Shared → Prop} {s : Shared}
end
end L3
end
section
namespace L3
open PySem PySem.Spec PyProof.Rows L2
theorem sq_neL {X : Cx} {pins : List (Addr × Obj)} {σ : L2.St} {H : Hp} {s : Shared} {a d : Addr} {xs : List V} (I : Inv X pins σ H s) (q : SqL X.K H a xs) (f : FpOk X pins H d) : a ≠ d := fun z => by
  subst z
  rcases q with (q | ⟨o, q⟩) | ⟨o, _, _, q, _⟩
  · rw [f.1] at q; cases q
  · rw [f.1] at q; cases q
  · have e := I.ok.mod.kin a o q
    rcases f.2.2.2.1 with z | z
    · exact I.ok.noex a o e z
    · exact absurd (Nat.lt_of_lt_of_le (Heap.lt_size e) I.ok.bsz) (Nat.not_lt.mpr z)
structure ZRecL (a b z TI TO i1 i2 : Addr) (i : Nat) (h : Heap) : Prop where
  z : IsZip h z TI TO .none
  TI : IsPair h TI (.ref i1) (.ref i2)
  TO : ∃ u v, IsPair h TO u v
  i1 : h.IsListIter i1 a i
  i2 : h.IsListIter i2 b i
end L3
end
section
namespace L3
open PySem PySem.Spec PyProof.Rows L2
theorem bt_tuple : bootBuiltins "tuple" = some (.type "tuple") := by decide +kernel
theorem bt_int : bootBuiltins "int" = some (.type "int") := by decide +kernel
theorem bt_bool : bootBuiltins "bool" = some (.type "bool") := by decide +kernel
theorem bt_list : bootBuiltins "list" = some (.type "list") := by decide +kernel
theorem bt_len : bootBuiltins "len" = some (.builtin "len") := by decide +kernel
theorem bt_isinstance : bootBuiltins "isinstance" = some (.builtin "isinstance") := by decide +kernel
theorem bt_max : bootBuiltins "max" = some (.builtin "max") := by decide +kernel
def Df (K : PySem.W.Frag) (mg : Str → Option Value) (x : Str) (st : Stmt) (ps : List Str) : Prop := ∃ f fd, Fun K x x st f fd ∧ mg x = some (.ref f) ∧ Binds K fd ps []
def Cal (P : Program) (w : World) (K : PySem.W.Frag) (mg : Str → Option Value) (CX : CXT) (x : Str) (k : Nat) (ps : List Str) (sp : Sp) : Prop :=
  ∃ f fd, (∀ base, FnOk P w K mg base CX k f fd ps sp) ∧ mg x = some (.ref f) ∧ PySem.W.keepIn K (.ref f) = true ∧ Binds K fd ps []
section
variable {P : Program} {w : World} {K : PySem.W.Frag} {mg : Str → Option Value}
theorem Df.ok {x : Str} {st : Stmt} {N ps : List Str} {k : Nat} {sp : Sp} (D : Df K mg x st ps) (S : FnScope N ps (defScope st)) (len : ∀ vs H Q E, sp vs H Q E → vs.length = ps.length)
    (hbody : ∀ (base : Heap) (f : Addr) (cdv : Value) (A : Around) (outer : List Env) (s : Shared) (H : Hp) (vs : List V) (Q : VK) (E : XK), Room k (A.deeper (envOfC x (defScope st) s.heap.objs.size f cdv)) → sp vs H Q E →
      ∃ t, PSs (cxOf CX0 P w K mg base N x (defScope st) f cdv A outer s H E).nox (defBody st) t ∧ t { nx := fun _ H' => Q .non H', rt := Q } (start N vs) H) : Cal P w K mg CX0 x (k + 1) ps sp := by
  obtain ⟨f, fd, F, m, b⟩ := D
  exact ⟨f, fd, fun base => F.ok S len (hbody base f), m, F.kp, b⟩
theorem Cal.mono {CX : CXT} {x : Str} {j k : Nat} {ps : List Str} {sp : Sp} (F : Cal P w K mg CX x j ps sp) (h : j ≤ k) : Cal P w K mg CX x k ps sp := by
  obtain ⟨f, fd, F, r⟩ := F
  exact ⟨f, fd, fun base => (F base).mono h, r⟩
theorem Cal.never {x : Str} {st : Stmt} {ps : List Str} {sp : Sp} {k : Nat} {CX : CXT} (D : Df K mg x st ps) (no : ∀ vs H Q E, ¬ sp vs H Q E) : Cal P w K mg CX x k ps sp := by
  obtain ⟨f, fd, F, m, b⟩ := D
  exact ⟨f, fd, fun base => ⟨fun vs H Q E h => absurd h (no vs H Q E), fun A outer s H args us vs Q E _ _ _ _ h => absurd h (no vs H Q E)⟩, m, F.kp, b⟩
end
def hidX (h : Heap) (H : Hp) (fs : List Addr) : Heap := PySem.W.hideAll (hidT h H) fs
theorem hidX_get {h : Heap} {H : Hp} {fs : List Addr} {b : Addr} {o : Obj} (e : h.get? b = some o) (n : H b = none) (hf : b ∉ fs) : (hidX h H fs).get? b = some o := PySem.W.hideAll_get _ (hidT_get e n) hf
theorem of_hidX {h : Heap} {H : Hp} {fs : List Addr} {b : Addr} {o : Obj} (e : (hidX h H fs).get? b = some o) : h.get? b = some o ∧ H b = none := of_hidT (PySem.W.of_hideAll fs e)
theorem hidX_size (h : Heap) (H : Hp) (fs : List Addr) : (hidX h H fs).objs.size = h.objs.size := (PySem.W.hideAll_size _ _).trans (hidT_size h H)
theorem funFrames_of {h B B' : Heap} : ∀ {l : List Env}, h.FunFrames B l → (∀ L ∈ frs l, B'.get? L = none) → h.FunFrames B' l
  | [], _, _ => trivial
  | env :: l, ⟨hk, ⟨L, o, hf, _, ho, hd⟩, hr⟩, hn => ⟨hk, ⟨L, o, hf, hn L (by unfold frs; rw [List.filterMap_cons, hf]; exact List.mem_cons_self), ho, hd⟩, funFrames_of hr fun b hb => hn b (by unfold frs at hb ⊢; rw [List.filterMap_cons, hf]; exact List.mem_cons_of_mem _ hb)⟩
theorem env1 {X : Cx} {pins : List (Addr × Obj)} {σ : L2.St} {H : Hp} {s : Shared} (I : Inv X pins σ H s) (hc : X.calm = true) : Env0 X.prog X.w X.K X.mg (hidX s.heap H (frs X.stack)) X.A X.stack s H := by
  have nf : ∀ b o, X.base.get? b = some o → b ∉ frs X.stack := fun b o e z => by
    rcases List.mem_cons.mp (I.stkSub b z) with z | z
    · have := Heap.lt_size e
      rw [z] at this
      exact absurd this (Nat.not_lt.mpr (Nat.le_trans I.ok.bsz I.ok.above))
    · exact I.ok.nofr e z
  have up : ∀ b o, X.base.get? b = some o → (hidX s.heap H (frs X.stack)).get? b = some o := fun b o e => hidX_get (I.bs b o e).1 (I.bs b o e).2 (nf b o e)
  obtain ⟨mb, b1, b2⟩ := I.ok.mod.blt
  refine ⟨I.ok.frames, ⟨I.ok.mod.kin.keeps up, I.ok.mod.glob.keeps up, ⟨mb, b1.keeps up, b2⟩, I.ok.mod.nolimit.keeps up, I.ok.mod.bm.keeps up⟩, fun b o e => of_hidX e, Nat.le_of_eq (hidX_size _ _ _), funFrames_of I.stack fun L hL => PySem.W.hideAll_none _ hL, I.stkFree, I.hok, I.bare, ?_⟩
  rcases I.ok.hd hc with h | ⟨a, oe, vs, e1, e2, e3⟩
  · exact .inl h
  · refine .inr ⟨a, oe, vs, e1, ?_, e3⟩
    rcases e2 with e2 | e2
    · exact up a oe e2
    · obtain ⟨q1, q2, q3, q4, _⟩ := I.pin (a, oe) (List.mem_append_left _ e2)
      refine hidX_get q1 q2 fun z => ?_
      rcases List.mem_cons.mp (I.stkSub a z) with z | z
      · exact q3 z
      · exact q4 z
theorem run_cal {X : Cx} {CX : CXT} {k : Nat} {f : Addr} {fd : FuncData} {ps : List Str} {sp : Sp} {E : XK} {pins : List (Addr × Obj)} {σ : L2.St} {H : Hp} {s : Shared} {Q : VK} {us : List Value} {vs : List V} {XE : Value → Shared → Prop}
    (F : ∀ base, FnOk X.prog X.w X.K X.mg base CX k f fd ps sp) (hr : Room k X.A) (hb : Binds X.K fd ps []) (I : Inv X pins σ H s) (hc : X.calm = true) (hx : ∀ e s', CX X.A.handled X.stack H s E e s' → XE e s') (r : Vals vs us) (h : sp vs H Q E) :
    wpAny (model X.prog X.w) X.A (call (.ref f) us) (EP X pins σ Q) XE s := by
  have hl : us.length = ps.length := by rw [← r.length]; exact (F (hidX s.heap H (frs X.stack))).len _ _ _ _ h
  have bt := hb s us I.kIn (by rw [List.append_nil]; exact hl)
  rw [List.append_nil] at bt
  refine wpAny_call (codeAny_mono ((F _).run X.A X.stack s H ⟨us, []⟩ us vs Q E hr (env1 I hc) bt r h) fun r s' hq => ?_)
  cases r with
  | error e => exact hx e s' hq
  | ok fl =>
    cases fl with
    | ret u => exact I.after hq
    | next => exact False.elim hq
    | brk => exact False.elim hq
    | cont => exact False.elim hq
theorem pe_fn {X : Cx} {CX : CXT} {x : Str} {k : Nat} {ps : List Str} {sp : Sp} {E : XK} {e : Expr} {es : List Expr} {t : TA} {p pos : Pos} (F : Cal X.prog X.w X.K X.mg CX x k ps sp) (hr : Room k X.A) (hg : Gl X x) (hx : Passes CX X E)
    (ha : PA X (e :: es) t) (hdb : (x == ("__debug__" : Str)) = false := by decide) (he : starEach (e :: es) X.env = (false, eval e X.env) :: starEach es X.env := by rfl) (hpl : (backTo pos (starEach es X.env)).any (·.1) = false := by rfl) (hc : X.calm = true := by rfl) :
    PE X (.Call (.Name x p) (e :: es) [] pos) (tCall sp [] E t) := by
  obtain ⟨f, fd, F, m, kp, b⟩ := F
  intro pins s σ H Q I h
  refine wpAny_Call_Name_kw (ld_glob I hg m ?_ hdb)
  refine PySem.W.callWith_K (h₀ := X.base) I.ok.mod.kin kp (thn (ha pos pins s σ H _ I h) fun us s1 ⟨vs, H1, I1, r, q⟩ => ⟨I1.kIn, ?_⟩) he hpl
  have q : sp (vs ++ []) H1 Q E := q
  rw [List.append_nil] at q
  exact run_cal F hr b I1 hc (fun e s' hc => hx pins σ H1 s1 e s' I1 hc) r q
theorem pe_ty {X : Cx} {x : Str} {n : String} {pos : Pos} (hm : X.mg x = none) (hv : bootBuiltins x = some (.type n)) (hg : Gl X x) (hn : x ≠ "__name__" := by decide) (hd : (x == ("__debug__" : Str)) = false := by decide) : PE X (.Name x pos) (tC (.ty n)) := pe_bltn hg hm hv rfl hn hd
def blkChk (outer : List (Str × NameKind)) (N N' : List Str) (own : Nat) (fr : List Nat) (scope : Scope) : Bool :=
  scope.names.all (fun y => y.2 != .cell && (y.2 != .local || scope.names.lookup y.1 == some .local) && (y.2 != .free || outer.lookup y.1 == some .cell || outer.lookup y.1 == some .free)) &&
  decide (N'.length = own + fr.length) && (List.range fr.length).all (fun j => match fr[j]? with
    | some i => match N'[own + j]? with
      | some x => N[i]? == some x && scope.names.lookup x == some .free
      | none => false
    | none => true)
theorem blk_of {X : Cx} {N N' : List Str} {own : Nat} {fr : List Nat} {sc scope : Scope} (hs : X.env.scope = sc) (hN : X.N = N) (hk : scope.kind = .function) (h : blkChk sc.names N N' own fr scope = true) : BlkScope X N' own fr scope := by
  unfold blkChk at h
  simp only [Bool.and_eq_true, List.all_eq_true, decide_eq_true_eq] at h
  obtain ⟨⟨h1, h2⟩, h3⟩ := h
  subst hN
  refine ⟨hk, fun y hy => ?_, fun y hy e => ?_, fun y hy e => ?_, h2, fun j i e => ?_⟩
  · simpa using (h1 y hy).1.1
  · have := (h1 y hy).1.2
    simpa [e] using this
  · have := (h1 y hy).2
    unfold Env.kindOf
    rw [hs]
    simpa [e] using this
  · have hj : j < fr.length := (List.getElem?_eq_some_iff.mp e).1
    have := h3 j (by simpa using hj)
    rw [e] at this
    cases hx : N'[own + j]? with
    | none => simp [hx] at this
    | some x =>
      simp only [hx, Bool.and_eq_true, beq_iff_eq] at this
      exact ⟨x, rfl, this.1, this.2⟩
end L3
end
section
namespace L3
open PySem PySem.Spec PyProof.Rows L2
section
variable {prog : Program} {w : World} {A : Around} {E : Value → Shared → Prop} {s : Shared}
end
section
variable {prog : Program} {w : World} {A : Around} {R : Result → Shared → Prop} {I : Addr} {fp wr : List Addr} {P : Nat → Value → Prop} {St : Nat → Heap → Prop}
end
section
variable {X : Cx} {pins : List (Addr × Obj)} {σ : L2.St} {H : Hp} {s : Shared}
end
end L3
end
section
namespace L3
open PySem PySem.Spec PyProof.Rows L2
theorem same_upd {H H2 : Hp} {p : Addr} {o : HO} (h : Same H H2) (hp : H p = none) : Same H (upd H2 p o) := fun b u q => by rw [upd_ne (ne_of_none q hp)]; exact h b u q
theorem comp_vals {J : It} {p : Addr} {H1 : Hp} {g : TG} {te : TE} {b : L2.St} {C : Hp → Prop} (n : Nat) (f : Nat → V) (hp : H1 p = none) (hn : n ≤ sizeLine)
    (hgo : ∀ i H2, i < n → Same H1 H2 → J.go i H2 ∧ ∀ x H3, J.yld i H2 x H3 → ∀ (R : V → Hp → Prop), (∀ H6, Same H2 H6 → R (f i) H6) → g x b H3 fun σ4 H4 => te σ4 H4 R)
    (hd : ∀ H2, Same H1 H2 → H2 p = some (.lst ((List.range n).map f)) → J.stop n H2 ∧ C H2) :
    ∃ W : Nat → Nat → List V → Hp → Prop, (∃ m, W 0 m [] (upd H1 p (.lst []))) ∧ ∀ i m acc H2, W i m acc H2 → (J.stop i H2 ∧ C H2) ∨ (J.go i H2 ∧ ∀ x H3, J.yld i H2 x H3 → g x b H3 fun σ4 H4 => tYes σ4 H4 fun ok H5 =>
      if ok = true then te σ4 H5 fun v H6 => H6 p = some (.lst acc) ∧ acc.length < sizeLine ∧ ∃ m', m' < m ∧ W (i + 1) m' (acc ++ [v]) (upd H6 p (.lst (acc ++ [v]))) else ∃ m', m' < m ∧ W (i + 1) m' acc H5) := by
  refine comp_by (Q := fun _ H => C H) n (fun i acc H2 => acc = (List.range i).map f ∧ H2 p = some (.lst acc) ∧ Same H1 H2) ⟨rfl, upd_same, same_new hp _⟩ ?_ ?_
  · rintro i acc H2 hi ⟨rfl, h2, s2⟩
    obtain ⟨g1, g2⟩ := hgo i H2 hi s2
    refine ⟨g1, fun x H3 y => ?_⟩
    simp only [tYes, if_true]
    refine g2 x H3 y _ fun H6 s6 => ⟨s6 _ _ h2, by rw [List.length_map, List.length_range]; omega, nx hi ⟨?_, upd_same, same_upd (s2.trans s6) hp⟩⟩
    rw [List.range_succ, List.map_append]; rfl
  · rintro acc H2 ⟨rfl, h2, s2⟩
    exact hd H2 s2 h2
end L3
end
section
namespace HT
open PySem PyProof.Rows
section
open PySem.SeqAt
open PySem.AutoSeq1 (wpAny_loadPart')
open PySem.MeetsSeq PySem.MeetsSeq2 PySem.MeetsSeq3
variable {prog : Program} {w : World} {A : Around} {E : Value → Shared → Prop} {s : Shared}
theorem getItem_tuple_whole {t sl : Addr} {items : Array Value} {vl vu : Value} {lo hi : Option Int} {Q : Value → Shared → Prop} (ht : IsTup s.heap t items) (hs : s.heap.IsSliceOf sl vl vu .none) (pl : IsPart vl lo) (pu : IsPart vu hi)
    (h1 : sIx items.size 0 lo = 0) (h2 : sIx items.size items.size hi = items.size) (h : Q (.ref t) s) : wpAny (model prog w) A (getItem (.ref t) (.ref sl)) Q E s := by
  obtain ⟨os, hos, hcs, hds⟩ := id hs
  have hTs : s.TypeIs (.ref sl) "slice" := ⟨os, hos, hcs⟩
  unfold getItem
  try with_reducible refine wpAny_holding ?_
  first | refine wpAny_bind (wpAny_pure ?_) | skip
  refine wpAny_bind (wpAny_sequenceKey ht.typeIs (by decide) ?_)
  refine wpAny_bind (wpAny_callSpecial?_slot (name := Str.ofString "__getitem__") ht.typeIs PyProof.Rows.slot_tuple_getitem
    (wpAny_call_entry PyProof.Rows.slot_tuple_getitem ht.typeIs entry_tuple_getitem ?_ (args_tuple_getitem _ _)))
  show wpAny _ _ (Builtin.Tuple.tupleItemsOf (.ref t) >>= _) _ _ s
  refine wpAny_bind (tupleItemsOf_ ht ?_)
  refine wpAny_bind (wpAny_typeOf hTs ?_)
  rw [if_pos (by decide)]
  refine wpAny_bind (sliceApplied_gen hs pl pu ?_)
  have hyes : (((sIx items.size 0 lo : Nat) : Int) == 0 && (1 : Int) == 1 && (sIx items.size items.size hi - sIx items.size 0 lo) == items.size) = true := by
    rw [h1, h2]; simp
  show wpAny _ _ (if (((sIx items.size 0 lo : Nat) : Int) == 0 && (1 : Int) == 1 && (sIx items.size items.size hi - sIx items.size 0 lo) == items.size) = true then _ else _) _ _ s
  rw [if_pos hyes]
  show wpAny _ _ (Builtin.Tuple.tupleIsExact (.ref t) >>= _) _ _ s
  refine wpAny_bind ?_
  unfold Builtin.Tuple.tupleIsExact
  refine wpAny_bind (wpAny_typeOf ht.typeIs (wpAny_pure ?_))
  rw [if_pos (by decide)]
  exact wpAny_bind (wpAny_rule (wpAny_pure ⟨_, rfl, wpAny_pure h⟩))
end
end HT
namespace L3
open PySem PySem.Spec PyProof.Rows L2
def rSlW (K : PySem.W.Frag) : V → Option Int → Option Int → Hp → VK → Prop := fun x lo hi H Q => ∃ a xs, x = .ref a ∧ SqT K H a xs ∧ (∀ p, H p = none → Q (.ref p) (upd H p (.tup (cutV xs lo hi)))) ∧ (cutV xs lo hi = xs → Q (.ref a) H)
theorem sl_tupW {X : Cx} : SlR X (rSlW X.K) := by
  intro pins s σ H x v vl vu lo hi sl Q I rx hs pl pu h
  obtain ⟨a, xs, rfl, hx, q1, q2⟩ := h
  by_cases hw : HT.sIx xs.length 0 lo = 0 ∧ HT.sIx xs.length xs.length hi = xs.length
  · cases rx
    obtain ⟨its, r, ht, hz⟩ := I.tuple hx
    have hlen : its.toArray.size = xs.length := by rw [List.size_toArray]; exact r.length.symm
    refine ⟨"tuple", _, PyProof.Rows.slot_tuple_getitem.lookup, ht.typeIs, ?_⟩
    refine HT.getItem_tuple_whole ht hs pl pu (by rw [hlen]; exact hw.1) (by rw [hlen]; exact hw.2) ⟨.ref a, H, I, rfl, q2 ?_⟩
    unfold cutV
    rw [hw.1, hw.2, List.drop_zero, Nat.sub_zero, List.take_length]
  · exact sl_tup pins s σ H _ v vl vu lo hi sl Q I rx hs pl pu ⟨a, xs, rfl, hx, hw, q1⟩
theorem cutV_from (xs : List V) (k : Nat) : cutV xs (some (k : Int)) none = xs.drop k := by
  unfold cutV
  rw [HT.sIx_none, HT.sIx_nat]
  by_cases h : k ≤ xs.length
  · rw [Nat.min_eq_left h]
    exact List.take_of_length_le (by rw [List.length_drop]; omega)
  · rw [Nat.min_eq_right (by omega), List.drop_eq_nil_of_le (Nat.le_refl _), List.drop_eq_nil_of_le (show xs.length ≤ k by omega)]
    simp
theorem cutV_to (xs : List V) (k : Nat) : cutV xs none (some (k : Int)) = xs.take k := by
  unfold cutV
  rw [HT.sIx_none, HT.sIx_nat, List.drop_zero, Nat.sub_zero]
  by_cases h : k ≤ xs.length
  · rw [Nat.min_eq_left h]
  · rw [Nat.min_eq_right (by omega), List.take_of_length_le (Nat.le_refl _), List.take_of_length_le (show xs.length ≤ k by omega)]
end L3
end
section
namespace L3
open PySem PySem.Spec PyProof.Rows L2
section
variable {X : Cx} {K : PySem.W.Frag}
end
end L3
end
section
namespace L3
open PySem PySem.Spec PyProof.Rows L2
def maxN : List Nat → Nat
  | [] => 0
  | a :: r => max a (maxN r)
end L3
end
section
namespace L3
open PySem PySem.Spec L2
variable {K : PySem.W.Frag}
def SqK (K : PySem.W.Frag) (a : Addr) (xs : List V) : Prop := ∃ (o : Obj) (its : Array Value) (n : Nat), K.lookup a = some o ∧ o.cls = .type "tuple" ∧ o.data = .seq its n ∧ its.size ≤ sizeLine ∧ Vals xs its.toList
structure KD (K : PySem.W.Frag) (a : Addr) (rows : List (Str × List V)) (as : List Addr) : Prop where
  len : as.length = rows.length
  tab : TabK K a ((rows.zip as).map fun p => (p.1.1, V.ref p.2))
  sq : ∀ p ∈ rows.zip as, SqK K p.2 p.1.2
end L3
end
section
namespace L3
open PySem PySem.Spec PyProof.Rows L2
structure MadeX (h h' : Heap) (e C : Addr) (hh : Option Value) : Prop where
  keeps : ∀ b o, h.get? b = some o → h'.get? b = some o
  new : h.get? e = none
  there : ∃ oe vs t c, h'.get? e = some oe ∧ oe.cls = .ref C ∧ oe.data = .fields vs ∧ vs[0]? = some (.ref t) ∧ vs[1]? = some .none ∧ vs[2]? = some c ∧ (hh = none → c = .none)
section
variable {prog : Program} {w : World} {A : Around} {E : Value → Shared → Prop} {s : Shared}
end
end L3
end
section
namespace L3
open PySem PySem.Spec PyProof.Rows L2
def Ex (h : Heap) (a C : Addr) (T c : Value) : Prop := ∃ oe vs a0, h.get? a = some oe ∧ oe.cls = .ref C ∧ oe.data = .fields vs ∧ vs[0]? = some a0 ∧ vs[1]? = some T ∧ vs[2]? = some c
def Tb (h : Heap) (T : Addr) (fl : Value) : Prop := ∃ oT ts, h.get? T = some oT ∧ oT.data = .fields ts ∧ ts[3]? = some fl
structure Stp (fs : List Addr) (xs : List Addr) (h h' : Heap) : Prop where
  keep : ∀ b o, h.get? b = some o → b ∉ fs → b ∉ xs → h'.get? b = some o
  slot : ∀ b o, h.get? b = some o → b ∈ fs → b ∉ xs → ∃ sl, h'.get? b = some { o with slots := sl }
section
variable {M : Model} {A : Around} {E : Value → Shared → Prop} {s : Shared}
end
end L3
end
section
namespace L3
open PySem PySem.Spec PyProof.Rows L2
structure Fre (X : Cx) (pins : List (Addr × Obj)) (H : Hp) (b : Addr) : Prop where
  un : H b = none
  new : X.s₀.heap.get? b = none
  loc : b ≠ X.env.locals
  cel : ∀ x c, X.env.cells.lookup x = some c → c ≠ b
  pin : ∀ p ∈ X.pn ++ pins, p.1 ≠ b
section
variable {X : Cx} {pins : List (Addr × Obj)} {σ : L2.St} {H H' : Hp} {s s' : Shared} {h' : Heap} {a : Addr}
end
structure Fly (X : Cx) (pins : List (Addr × Obj)) (H : Hp) (s : Shared) (a C T : Addr) (c fl : Value) : Prop where
  ex : Ex s.heap a C (.ref T) c
  tb : Tb s.heap T fl
  ne : T ≠ a
  fa : Fre X pins H a
  fT : Fre X pins H T
section
variable {X : Cx} {pins : List (Addr × Obj)} {σ : L2.St} {H : Hp} {s s' : Shared} {E : XK} {e : Value} {hh : Option Value}
end
section
variable {P : Program} {w : World} {K : PySem.W.Frag} {mg : Str → Option Value} {base : Heap} {N : List Str} {qual : Str} {sc : Scope} {f : Addr} {cd : Value} {A : Around} {outer : List Env} {s₀ : Shared} {H₀ : Hp} {E : XK}
end
end L3
end
section
namespace L3
open PySem PySem.Spec PyProof.Rows L2
section
variable {X : Cx} {pins : List (Addr × Obj)} {σ : L2.St} {H : Hp} {s : Shared} {a : Addr} {oe : Obj} {cm : Bool}
end
section
variable {X : Cx} {cm : Bool}
def D1 (i : Nat) (D : Ends) : Ends := { nx := fun σ H => D.nx (σ.set i none) H, rt := D.rt, bk := fun σ H => D.bk (σ.set i none) H, ct := fun σ H => D.ct (σ.set i none) H }
end
end L3
end
section
namespace L3
open PySem PySem.Spec PyProof.Rows L2
structure ClsK (K : PySem.W.Frag) (C : Addr) : Prop where
  ga : PySem.W.findIn K (.ref C) "__getattribute__" = some (some (.builtin "BaseException.__getattribute__"))
  cl : PySem.W.findIn K (.ref C) "__class__" = some (some (.builtin "object.__class__"))
  gt : PySem.W.findIn K (.ref C) "__getattr__" = some none
  ob : PySem.W.mroIn K C (.type "object") = some true
  be : PySem.W.mroIn K C (.type "BaseException") = some true
  is : (PySem.W.clsIn K C).isSome = true
section
variable {prog : Program} {w : World} {A : Around} {E : Value → Shared → Prop} {h : Heap} {g : Array GenState} {d : Drawn} {t : Nat} {os : OsState} {a C : Addr} {o : Obj} {K : PySem.W.Frag}
end
end L3
end
section
namespace L3
open PySem PySem.Spec PyProof.Rows L2
section
variable {X : Cx} {pins : List (Addr × Obj)} {σ : L2.St} {H : Hp} {s : Shared} {a : Addr} {D : List (Str × V)} {k : Str} {tk : Tok} {A : Around} {E : Value → Shared → Prop}
end
structure ERec (a e it : Addr) (i : Nat) (h : Heap) : Prop where
  e : ∃ old, IsEnum h e it i old
  it : h.IsListIter it a i
end L3
end
section
namespace L3
open PySem PySem.Spec PyProof.Rows L2
theorem cxK {CX : CXT} {P : Program} {w : World} {K : PySem.W.Frag} {mg : Str → Option Value} {base : Heap} {N : List Str} {qual : Str} {scope : Scope} {f : Addr} {cd : Value} {A : Around} {outer : List Env} {s : Shared} {H : Hp} {E : XK} : (cxOf CX P w K mg base N qual scope f cd A outer s H E).nox.K = K := rfl
end L3
end
section
namespace L3
open PySem L2
theorem let2 {t1 t2 : TS} {D : Ends} {σ : L2.St} {H : Hp} (h : let D0 : Ends := D; let v2 : TS := t2; tSeq t1 v2 D0 σ H) : (tSeq t1 (t2)) D σ H := h
theorem let3 {t1 t2 t3 : TS} {D : Ends} {σ : L2.St} {H : Hp} (h : let D0 : Ends := D; let v3 : TS := t3; let v2 : TS := tSeq t2 v3; tSeq t1 v2 D0 σ H) : (tSeq t1 (tSeq t2 (t3))) D σ H := h
theorem let4 {t1 t2 t3 t4 : TS} {D : Ends} {σ : L2.St} {H : Hp} (h : let D0 : Ends := D; let v4 : TS := t4; let v3 : TS := tSeq t3 v4; let v2 : TS := tSeq t2 v3; tSeq t1 v2 D0 σ H) : (tSeq t1 (tSeq t2 (tSeq t3 (t4)))) D σ H := h
theorem let5 {t1 t2 t3 t4 t5 : TS} {D : Ends} {σ : L2.St} {H : Hp} (h : let D0 : Ends := D; let v5 : TS := t5; let v4 : TS := tSeq t4 v5; let v3 : TS := tSeq t3 v4; let v2 : TS := tSeq t2 v3; tSeq t1 v2 D0 σ H) : (tSeq t1 (tSeq t2 (tSeq t3 (tSeq t4 (t5))))) D σ H := h
theorem let6 {t1 t2 t3 t4 t5 t6 : TS} {D : Ends} {σ : L2.St} {H : Hp} (h : let D0 : Ends := D; let v6 : TS := t6; let v5 : TS := tSeq t5 v6; let v4 : TS := tSeq t4 v5; let v3 : TS := tSeq t3 v4; let v2 : TS := tSeq t2 v3; tSeq t1 v2 D0 σ H) : (tSeq t1 (tSeq t2 (tSeq t3 (tSeq t4 (tSeq t5 (t6)))))) D σ H := h
theorem let7 {t1 t2 t3 t4 t5 t6 t7 : TS} {D : Ends} {σ : L2.St} {H : Hp} (h : let D0 : Ends := D; let v7 : TS := t7; let v6 : TS := tSeq t6 v7; let v5 : TS := tSeq t5 v6; let v4 : TS := tSeq t4 v5; let v3 : TS := tSeq t3 v4; let v2 : TS := tSeq t2 v3; tSeq t1 v2 D0 σ H) : (tSeq t1 (tSeq t2 (tSeq t3 (tSeq t4 (tSeq t5 (tSeq t6 (t7))))))) D σ H := h
theorem let8 {t1 t2 t3 t4 t5 t6 t7 t8 : TS} {D : Ends} {σ : L2.St} {H : Hp} (h : let D0 : Ends := D; let v8 : TS := t8; let v7 : TS := tSeq t7 v8; let v6 : TS := tSeq t6 v7; let v5 : TS := tSeq t5 v6; let v4 : TS := tSeq t4 v5; let v3 : TS := tSeq t3 v4; let v2 : TS := tSeq t2 v3; tSeq t1 v2 D0 σ H) : (tSeq t1 (tSeq t2 (tSeq t3 (tSeq t4 (tSeq t5 (tSeq t6 (tSeq t7 (t8)))))))) D σ H := h
theorem let12 {t1 t2 t3 t4 t5 t6 t7 t8 t9 t10 t11 t12 : TS} {D : Ends} {σ : L2.St} {H : Hp} (h : let D0 : Ends := D; let v12 : TS := t12; let v11 : TS := tSeq t11 v12; let v10 : TS := tSeq t10 v11; let v9 : TS := tSeq t9 v10; let v8 : TS := tSeq t8 v9; let v7 : TS := tSeq t7 v8; let v6 : TS := tSeq t6 v7; let v5 : TS := tSeq t5 v6; let v4 : TS := tSeq t4 v5; let v3 : TS := tSeq t3 v4; let v2 : TS := tSeq t2 v3; tSeq t1 v2 D0 σ H) : (tSeq t1 (tSeq t2 (tSeq t3 (tSeq t4 (tSeq t5 (tSeq t6 (tSeq t7 (tSeq t8 (tSeq t9 (tSeq t10 (tSeq t11 (t12)))))))))))) D σ H := h
end L3
namespace KM
theorem d0 {t : D} {n : Nat} (h : depth t + 0 ≤ n) : depth t ≤ n := h
theorem q0 {x : PySem.Str} {k n : Nat} (h : k + 1 ≤ n) : depth (.tup [.str x]) + k ≤ n := by simp only [depth, depthL]; omega
theorem q1 {x : PySem.Str} {a : D} {k n : Nat} (h : depth a + (k + 1) ≤ n) : depth (.tup [.str x, a]) + k ≤ n := by simp only [depth, depthL]; omega
theorem q2 {x : PySem.Str} {a b : D} {k n : Nat} (h1 : depth a + (k + 1) ≤ n) (h2 : depth b + (k + 1) ≤ n) : depth (.tup [.str x, a, b]) + k ≤ n := by simp only [depth, depthL]; omega
theorem q3 {x : PySem.Str} {a b c : D} {k n : Nat} (h1 : depth a + (k + 1) ≤ n) (h2 : depth b + (k + 1) ≤ n) (h3 : depth c + (k + 1) ≤ n) : depth (.tup [.str x, a, b, c]) + k ≤ n := by simp only [depth, depthL]; omega
theorem q4 {x : PySem.Str} {a b c d : D} {k n : Nat} (h1 : depth a + (k + 1) ≤ n) (h2 : depth b + (k + 1) ≤ n) (h3 : depth c + (k + 1) ≤ n) (h4 : depth d + (k + 1) ≤ n) : depth (.tup [.str x, a, b, c, d]) + k ≤ n := by simp only [depth, depthL]; omega
end KM
namespace L3
open PySem L2
theorem by0 {P : List Value → Prop} (h : P []) : ∀ us : List Value, us.length = 0 → P us := fun us e => by rw [List.length_eq_zero_iff.mp e]; exact h
theorem byS {P : List Value → Prop} {n : Nat} (h : ∀ a us, us.length = n → P (a :: us)) : ∀ us : List Value, us.length = n + 1 → P us
  | [], e => nomatch e
  | a :: us, e => h a us (Nat.succ.inj e)
theorem by1 {P : List Value → Prop} (h : ∀ a, P [a]) : ∀ us : List Value, us.length = 1 → P us := byS fun a => by0 (h a)
theorem by2 {P : List Value → Prop} (h : ∀ a b, P [a, b]) : ∀ us : List Value, us.length = 2 → P us := byS fun a => by1 (h a)
theorem by3 {P : List Value → Prop} (h : ∀ a b c, P [a, b, c]) : ∀ us : List Value, us.length = 3 → P us := byS fun a => by2 (h a)
theorem by4 {P : List Value → Prop} (h : ∀ a b c d, P [a, b, c, d]) : ∀ us : List Value, us.length = 4 → P us := byS fun a => by3 (h a)
theorem by5 {P : List Value → Prop} (h : ∀ a b c d e, P [a, b, c, d, e]) : ∀ us : List Value, us.length = 5 → P us := byS fun a => by4 (h a)
theorem by6 {P : List Value → Prop} (h : ∀ a b c d e f, P [a, b, c, d, e, f]) : ∀ us : List Value, us.length = 6 → P us := byS fun a => by5 (h a)
def DfIn (K : PySem.W.Frag) (x : Str) (st : Stmt) : Prop := ∃ (f : Addr) (od an : Option Addr) (sl : Array (Option Value)) (oc kV dc pm cd ct : Value), PySem.W.nsIn K mainGlobals x = some (some (.ref f)) ∧
  K.lookup f = some ⟨oc, od, .func (PySem.W.fnOf x x (defArgs st) (defBody st) (defScope st) .none kV dc pm an cd ct), sl⟩ ∧ PySem.W.codeIn K cd x = true ∧ PySem.W.keepIn K (.ref f) = true
theorem dfi {K : PySem.W.Frag} {x : Str} {st : Stmt} {f : Addr} {od an : Option Addr} {sl : Array (Option Value)} {oc kV dc pm cd ct : Value} (a : PySem.W.nsIn K mainGlobals x = some (some (.ref f)))
    (l : K.lookup f = some ⟨oc, od, .func (PySem.W.fnOf x x (defArgs st) (defBody st) (defScope st) .none kV dc pm an cd ct), sl⟩) (c : PySem.W.codeIn K cd x = true) (k : PySem.W.keepIn K (.ref f) = true) : DfIn K x st :=
  ⟨f, od, an, sl, oc, kV, dc, pm, cd, ct, a, l, c, k⟩
theorem DfIn.df {K : PySem.W.Frag} {h : Heap} {mg : Str → Option Value} {x : Str} {st : Stmt} {ps : List Str} (D : DfIn K x st) (X : K.In h) (G : h.Ns mainGlobals mg)
    (b : ∀ (kV doc pm : Value) (an : Option Addr) (cdv ct : Value) (us : List Value), us.length = ps.length → bindArgs (PySem.W.fnOf x x (defArgs st) (defBody st) (defScope st) .none kV doc pm an cdv ct) ⟨us, []⟩ = pure (ps.zip us)) : Df K mg x st ps := by
  obtain ⟨f, od, an, sl, oc, kV, dc, pm, cd, ct, a, l, c, k⟩ := D
  exact ⟨f, _, fun_mk l c k, PySem.W.mg_of X G a, (fun_mk l c k).binds b⟩
end L3
end
section
namespace K30
open PySem L2 L3 KM
def top (i : Nat) : Stmt := PySem.Challenge.pw_keeper_k30_parting.main.body.getD i (.Pass ⟨0, 0, 0, 0⟩)
abbrev s_kids_of : Stmt := top 1
abbrev s_is_unlike : Stmt := top 3
abbrev s_parting : Stmt := top 4
abbrev s_law_draw : Stmt := top 6
abbrev s_law_named : Stmt := top 7
abbrev s_law_pool : Stmt := top 8
abbrev s_law_leaf : Stmt := top 9
abbrev s_law_kind : Stmt := top 10
abbrev s_law_fun : Stmt := top 11
abbrev s_law_pair : Stmt := top 12
abbrev s_law_like : Stmt := top 13
abbrev s_law_number : Stmt := top 14
abbrev s_law_parted : Stmt := top 15
abbrev s_law_still : Stmt := top 16
abbrev s_law_term : Stmt := top 17
abbrev s_law_kids : Stmt := top 18
abbrev s_law_measured : Stmt := top 19
abbrev s_law_great : Stmt := top 20
abbrev s_law_rule : Stmt := top 23
abbrev s_law_rows : Stmt := top 24
abbrev s_law_with : Stmt := top 25
abbrev s_law_unlike : Stmt := top 26
abbrev s_law_due : Stmt := top 27
abbrev s_law_changed : Stmt := top 28
abbrev s_law_sized : Stmt := top 29
abbrev s_law_nexts : Stmt := top 30
abbrev s_law_told : Stmt := top 31
abbrev s_law : Stmt := top 32
structure Adr where
  none_ : Unit := ()
structure Mg (mg : Str → Option Value) (t : Adr) : Prop where
  n_bool : mg "bool" = none
  n_enumerate : mg "enumerate" = none
  n_int : mg "int" = none
  n_isinstance : mg "isinstance" = none
  n_len : mg "len" = none
  n_list : mg "list" = none
  n_max : mg "max" = none
  n_min : mg "min" = none
  n_range : mg "range" = none
  n_tuple : mg "tuple" = none
  n_zip : mg "zip" = none
seal L2.PE L2.PS L2.PSs L2.PT L2.PW L2.PA L2.PG L2.PGs L2.PI L2.PC L2.PO L2.PPs L2.PK L3.PIf
variable {P : Program} {w : World} {K : PySem.W.Frag} {mg : Str → Option Value} {base : Heap} {f : Addr} {fd : FuncData}
variable {P : Program} {w : World} {K : PySem.W.Frag} {mg : Str → Option Value} {base : Heap} {f : Addr} {fd : FuncData}
def tab1 : List (Key × V) := [(.inr "nat", .str ""), (.inr "none", .str ""), (.inr "zero", .str ""), (.inr "all", .str "kk"), (.inr "some", .str "kk"), (.inr "same", .str "ktt"), (.inr "fun", .str "kt"), (.inr "app", .str "tt")]
def tab2 : List (Key × V) := [(.inr "next", .str "t"), (.inr "rec", .str "kttt"), (.inr "like", .str "kt"), (.inr "carry", .str "ktt"), (.inr "never", .str "kt"), (.inr "pair", .str "ktt"), (.inr "first", .str "t")]
def tab3 : List (Key × V) := [(.inr "second", .str "t"), (.inr "var", .str "n"), (.inr "name", .str "w")]
def shapeV (x : Str) : V := match valV tab1 (Sum.inr x : Key) with
  | some v => v
  | none => match valV tab2 (Sum.inr x : Key) with
    | some v => v
    | none => (valV tab3 (Sum.inr x : Key)).getD .non
def kindW (w : Str) : Bool := inV (.str w) [.str "nat", .str "none", .str "all", .str "some", .str "same"]
def numD : D → Bool
  | .int i => decide (0 ≤ i) && decide (i ≤ 99)
  | _ => false
mutual
def wfG (nm : D → Bool) (k : Bool) : D → Bool
  | .tup (.str w :: ps) => match shapeV w with
    | .str s => (kindW w == k) && wfL nm s.cps.toList ps
    | _ => false
  | _ => false
def wfL (nm : D → Bool) : List Nat → List D → Bool
  | [], [] => true
  | c :: cs, p :: ps => (if c = 107 then wfG nm true p else if c = 116 then wfG nm false p else if c = 110 then numD p else nm p) && wfL nm cs ps
  | _, _ => false
end
def dueB (nm : D → Bool) (c : Nat) (p : D) : Bool := if c = 107 then wfG nm true p else if c = 116 then wfG nm false p else if c = 110 then numD p else nm p
theorem wfL_cons (nm : D → Bool) (c : Nat) (cs : List Nat) (p : D) (ps : List D) : wfL nm (c :: cs) (p :: ps) = (dueB nm c p && wfL nm cs ps) := by rw [wfL]; rfl
theorem wfG_mk {nm : D → Bool} {k : Bool} {w s : Str} {ps : List D} (h1 : shapeV w = .str s) (h2 : kindW w = k) (h3 : wfL nm s.cps.toList ps = true) : wfG nm k (.tup (.str w :: ps)) = true := by
  rw [wfG, h1]
  simp [h2, h3]
theorem shape_var : shapeV "var" = .str "n" := by decide +kernel
theorem shape_name : shapeV "name" = .str "w" := by decide +kernel
theorem kind_var : kindW "var" = false := by decide +kernel
theorem kind_name : kindW "name" = false := by decide +kernel
theorem len_n : (Str.ofString "n").cps.toList = [110] := by decide +kernel
theorem len_w : (Str.ofString "w").cps.toList = [119] := by decide +kernel
theorem wf_var {nm : D → Bool} {z : Int} (h0 : 0 ≤ z) (h1 : z ≤ 99) : wfG nm false (.tup [.str "var", .int z]) = true := by
  refine wfG_mk shape_var kind_var ?_
  rw [len_n, wfL_cons]
  simp [dueB, numD, h0, h1, wfL]
theorem wf_name {nm : D → Bool} {y : Str} (h : nm (.str y) = true) : wfG nm false (.tup [.str "name", .str y]) = true := by
  refine wfG_mk shape_name kind_name ?_
  rw [len_w, wfL_cons]
  simp [dueB, h, wfL]
variable {P : Program} {w : World} {K : PySem.W.Frag} {mg : Str → Option Value} {base : Heap} {f fN fM fS : Addr} {fd fdN fdM fdS : FuncData}
def w0 (k : Bool) : Str := if k then "nat" else "var"
variable {t : Adr}
end K30
end
section
set_option maxHeartbeats 1000000
namespace K30
open PySem L2 L3 KM
seal L2.PE L2.PS L2.PSs L2.PT L2.PW L2.PA L2.PG L2.PGs L2.PI L2.PC L2.PO L2.PPs L2.PK L3.PIf
variable {P : Program} {w : World} {K : PySem.W.Frag} {mg : Str → Option Value} {base : Heap} {t : Adr}
def rows18 : List (Str × List V) := [("nat", []), ("none", []), ("all", [.str "kind", .str "kind"]), ("some", [.str "kind", .str "kind"]), ("same", [.str "kind", .str "term", .str "term"]), ("var", []), ("fun", [.str "kind", .str "term"]),
  ("app", [.str "term", .str "term"]), ("zero", []), ("next", [.str "term"]), ("rec", [.str "kind", .str "term", .str "term", .str "term"]), ("like", [.str "kind", .str "term"]), ("carry", [.str "kind", .str "term", .str "term"]),
  ("never", [.str "kind", .str "term"]), ("pair", [.str "kind", .str "term", .str "term"]), ("first", [.str "term"]), ("second", [.str "term"]), ("name", [])]
def cDue (c : Nat) : V := if c = 107 then .str "kind" else .str "term"
def rowOk (r : Str × List V) : Bool := match shapeV r.1 with
  | .str s => decide (s.cps.size ≤ 4) && if r.1 = "var" then decide (s = "n") else if r.1 = "name" then decide (s = "w") else s.cps.toList.all (fun c => c == 107 || c == 116) && decide (r.2 = s.cps.toList.map cDue)
  | _ => false
theorem rows_ok : rows18.all rowOk = true := by decide +kernel
theorem lookup_mem {α : Type} {x : Str} {v : α} : ∀ {l : List (Str × α)}, l.lookup x = some v → (x, v) ∈ l
  | [], h => by simp at h
  | (k, u) :: l, h => by
    rw [List.lookup_cons] at h
    cases e : x == k with
    | true =>
      rw [e] at h
      obtain rfl : x = k := by simpa using e
      cases h
      exact List.mem_cons_self
    | false => rw [e] at h; exact List.mem_cons_of_mem _ (lookup_mem h)
theorem lookup_none {α : Type} {x : Str} : ∀ {l : List (Str × α)}, l.lookup x = none → x ∉ l.map (·.1)
  | [], _ => by simp
  | (k, u) :: l, h => by
    rw [List.lookup_cons] at h
    cases e : x == k with
    | true => rw [e] at h; cases h
    | false =>
      rw [e] at h
      have := lookup_none h
      have e : ¬ x = k := by simpa using e
      simp only [List.map_cons, List.mem_cons, not_or]
      exact ⟨e, this⟩
inductive Shp (w : Str) : Prop where
  | non (h1 : rows18.lookup w = none) (h2 : shapeV w = .non)
  | var (h1 : rows18.lookup w = some []) (h2 : w = "var")
  | name (h1 : rows18.lookup w = some []) (h2 : w = "name")
  | form (s : Str) (h1 : rows18.lookup w = some (s.cps.toList.map cDue)) (h2 : shapeV w = .str s) (h3 : w ≠ "var") (h4 : w ≠ "name") (h5 : ∀ c ∈ s.cps.toList, c = 107 ∨ c = 116) (h6 : s.cps.size ≤ 4)
theorem keyNone {tab : List (Key × V)} {w : Str} (h : ∀ k ∈ tab.map (·.1), k ≠ Sum.inr w) : valV tab (Sum.inr w : Key) = none := by
  cases e : valV tab (Sum.inr w : Key) with
  | none => rfl
  | some v =>
    exact absurd rfl (h _ (valV_in e))
def keyIn (k : Key) (l : List Str) : Bool := match k with
  | .inr x => decide (x ∈ l)
  | .inl _ => true
theorem shp (w : Str) : Shp w := by
  cases h : rows18.lookup w with
  | none =>
    refine .non h ?_
    have nm := lookup_none h
    have sub : ∀ tab : List (Key × V), (tab.map (·.1)).all (fun k => keyIn k (rows18.map (·.1))) = true → valV tab (Sum.inr w : Key) = none := fun tab ht => keyNone fun k hk z => by
      subst z
      have := List.all_eq_true.mp ht _ hk
      simp only [keyIn, decide_eq_true_eq] at this
      exact nm this
    have e1 := sub tab1 (by decide +kernel)
    have e2 := sub tab2 (by decide +kernel)
    have e3 := sub tab3 (by decide +kernel)
    unfold shapeV
    rw [e1, e2, e3]
    rfl
  | some ds =>
    have m := lookup_mem h
    have g := List.all_eq_true.mp rows_ok _ m
    unfold rowOk at g
    by_cases hv : w = "var"
    · subst hv
      exact .var (by decide +kernel) rfl
    · by_cases hn : w = "name"
      · subst hn
        exact .name (by decide +kernel) rfl
      · cases e : shapeV w with
        | str s =>
          rw [e] at g
          simp only [hv, hn, if_false, Bool.and_eq_true, List.all_eq_true, Bool.or_eq_true, beq_iff_eq, decide_eq_true_eq] at g
          obtain ⟨g1, g2, g3⟩ := g
          exact .form s (by rw [h, g3]) e hv hn g2 g1
        | _ => rw [e] at g; simp at g
end K30
end
section
set_option maxHeartbeats 1000000
namespace K30
open PySem L2 L3 KM
seal L2.PE L2.PS L2.PSs L2.PT L2.PW L2.PA L2.PG L2.PGs L2.PI L2.PC L2.PO L2.PPs L2.PK L3.PIf
variable {P : Program} {w : World} {K : PySem.W.Frag} {mg : Str → Option Value} {base : Heap} {t : Adr}
def leafW (x : Str) : Bool := decide (x = "var") || decide (x = "name")
def kidsD (x : Str) (ps : List D) : List D := if leafW x = true then [] else ps
def spKids : Sp := fun vs H Q _ => ∃ (x : Str) (ps : List D) (v : V), vs = [v] ∧ Rep H (.tup (.str x :: ps)) v ∧ ps.length ≤ 10 ∧ ∀ (a : Addr) (us : List V) (H' : Hp), H a = none → Same H H' → H' a = some (.lst us) → Reps H' (kidsD x ps) us → Q (.ref a) H'
theorem sc_kids_of : FnScope ["thing"] ["thing"] (defScope s_kids_of) := ⟨rfl, rfl, rfl, by decide +kernel, rfl, by decide +kernel, by decide +kernel⟩
theorem c_kids_of (D : Df K mg "kids_of" s_kids_of ["thing"]) (M : Mg mg t) : Cal P w K mg CX0 "kids_of" (1) ["thing"] spKids := by
  refine D.ok sc_kids_of (fun vs H Q E h => ?_) (fun base f cdv A outer s H vs Q E hr h => ?_)
  · obtain ⟨x, ps, v, rfl, _⟩ := h
    rfl
  obtain ⟨x, ps, v, rfl, r, hl, q⟩ := h
  obtain ⟨a, us, rfl, ha, v0, us, rfl, ⟨rfl, hx⟩, rp⟩ := r
  have hlu := rp.length
  have ea : atI (V.str x :: us) 0 = some (.str x) := atI_nat (j := 0) rfl
  have hT : SqT K H a (.str x :: us) := SqT.of ha
  refine ⟨_, (pss_cons (ps_if (L2.PW.pt (pw_or (pt_cmpR op_eq (pe_ix ix_tup (pv 0) pe_int (fun _ _ => rfl)) pe_str (nomark _)) (pw_or1 (pt_cmpR op_eq (pe_ix ix_tup (pv 0) pe_int (fun _ _ => rfl)) pe_str (nomark _))))) (pss_one (ps_ret (pe_lst pa_nil))) pss_nil)
      (pss_one (ps_ret (pe_callTy call_list_of rfl M.n_list bt_list (pa_cons (pe_slice sl_tupW (pv 0) (po_some pe_int) po_none) pa_nil))))), ?_⟩
  try dsimp only [cxK, cxK2]
  refine let2 ?_
  intro _ _
  have leaf : leafW x = true → 0 ≤ sizeLine ∧ ∀ p, H p = none → Q (.ref p) (upd H p (.lst [])) := fun c => ⟨Nat.zero_le _, fun p hp => q p [] _ hp (same_new hp _) upd_same (by unfold kidsD; rw [if_pos c]; exact rfl)⟩
  refine ⟨_, rfl, a, _, _, _, rfl, rfl, hT, ea, rfl, _, rfl, ?_⟩
  refine ite2 (fun c => ?_) (fun c => ?_)
  · refine iteT ?_
    have c : V.str x = V.str "var" := of_decide_eq_true c
    cases c
    exact leaf rfl
  refine ⟨_, rfl, a, _, _, _, rfl, rfl, hT, ea, rfl, _, rfl, ?_⟩
  refine ite2 (fun c2 => ?_) (fun c2 => ?_)
  · have c2 : V.str x = V.str "name" := of_decide_eq_true c2
    cases c2
    exact leaf (by decide +kernel)
  have nl : leafW x = false := by
    unfold leafW
    have h1 : x ≠ "var" := fun z => c (by rw [z]; decide +kernel)
    have h2 : x ≠ "name" := fun z => c2 (by rw [z]; decide +kernel)
    simp [h1, h2]
  have nk : kidsD x ps = ps := by unfold kidsD; rw [nl]; rfl
  rw [nk] at q
  have ec : cutV (V.str x :: us) (some 1) none = us := by
    have := cutV_from (V.str x :: us) 1
    simpa using this
  refine ⟨_, rfl, _, rfl, a, _, rfl, hT, fun p hp => ?_, fun z => ?_⟩
  · rw [ec]
    refine ⟨p, us, rfl, .inr (SqT.of upd_same), fun l hl => ?_⟩
    exact q l us _ ((same_new hp _).free hl) ((same_new hp _).trans (same_new hl _)) upd_same (rp.mono ((same_new hp _).trans (same_new hl _)))
  · rw [ec] at z
    exact absurd (congrArg List.length z) (by simp)
theorem wfL_len {nm : D → Bool} : ∀ {cs : List Nat} {ps : List D}, wfL nm cs ps = true → cs.length = ps.length
  | [], [], _ => rfl
  | [], _ :: _, h => by simp [wfL] at h
  | _ :: _, [], h => by simp [wfL] at h
  | c :: cs, p :: ps, h => by
    rw [wfL_cons, Bool.and_eq_true] at h
    rw [List.length_cons, List.length_cons, wfL_len h.2]
def ktB (c : Nat) : Bool := !(Builtin.Str.occurrences (Str.ofString "kt") ⟨#[c]⟩ 0 (Str.ofString "kt").length 1).isEmpty
theorem kt1 : ktB 107 = true := by decide +kernel
theorem kt2 : ktB 116 = true := by decide +kernel
theorem kt3 : ktB 110 = false := by decide +kernel
theorem kt4 : ktB 119 = false := by decide +kernel
theorem wf_shape {nm : D → Bool} {k : Bool} {x : Str} {ps : List D} (h : wfG nm k (.tup (.str x :: ps)) = true) : ∃ s, shapeV x = .str s ∧ kindW x = k ∧ wfL nm s.cps.toList ps = true ∧ s.cps.size ≤ 4 ∧ s.cps.toList.length = ps.length ∧ (∀ c ∈ s.cps.toList, ktB c = !leafW x) ∧
    (leafW x = false → ∀ c ∈ s.cps.toList, c = 107 ∨ c = 116) ∧ ∃ r, rows18.lookup x = some r ∧ r.length = (kidsD x ps).length := by
  have key : ∀ s, shapeV x = .str s → kindW x = k ∧ wfL nm s.cps.toList ps = true := fun s e => by
    rw [wfG, e, Bool.and_eq_true] at h
    exact ⟨by simpa using h.1, h.2⟩
  cases shp x with
  | non h1 h2 => rw [wfG, h2] at h; simp at h
  | var h1 h2 =>
    subst h2
    obtain ⟨k1, k2⟩ := key _ shape_var
    refine ⟨_, shape_var, k1, k2, by decide, wfL_len k2, fun c hc => ?_, fun z => absurd z (by decide +kernel), _, h1, by unfold kidsD; rw [if_pos (by decide +kernel)]; rfl⟩
    rw [len_n] at hc
    rw [List.mem_singleton.mp hc, kt3]
    decide +kernel
  | name h1 h2 =>
    subst h2
    obtain ⟨k1, k2⟩ := key _ shape_name
    refine ⟨_, shape_name, k1, k2, by decide, wfL_len k2, fun c hc => ?_, fun z => absurd z (by decide +kernel), _, h1, by unfold kidsD; rw [if_pos (by decide +kernel)]; rfl⟩
    rw [len_w] at hc
    rw [List.mem_singleton.mp hc, kt4]
    decide +kernel
  | form s h1 h2 h3 h4 h5 h6 =>
    obtain ⟨k1, k2⟩ := key s h2
    have nl : leafW x = false := by unfold leafW; simp [h3, h4]
    refine ⟨s, h2, k1, k2, h6, wfL_len k2, fun c hc => ?_, fun _ => h5, _, h1, ?_⟩
    · rw [nl]
      rcases h5 c hc with z | z <;> rw [z]
      · exact kt1
      · exact kt2
    · unfold kidsD
      rw [nl, List.length_map, wfL_len k2]
      rfl
end K30
end
section
set_option maxHeartbeats 1000000
namespace K30
open PySem L2 L3 KM PyProof.Rows
seal L2.PE L2.PS L2.PSs L2.PT L2.PW L2.PA L2.PG L2.PGs L2.PI L2.PC L2.PO L2.PPs L2.PK L3.PIf
variable {P : Program} {w : World} {K : PySem.W.Frag} {mg : Str → Option Value} {base : Heap} {t : Adr}
theorem inV_strs (x : Str) : ∀ ws : List Str, inV (.str x) (ws.map V.str) = decide (x ∈ ws)
  | [] => rfl
  | y :: ws => by
    have ih := inV_strs x ws
    unfold inV at ih ⊢
    rw [List.map_cons, List.any_cons, ih]
    show (y == x || decide (x ∈ ws)) = decide (x ∈ y :: ws)
    by_cases e : y = x
    · subst e; simp
    · have e' : ¬ x = y := fun z => e z.symm
      simp [e, e']
end K30
end
section
set_option maxHeartbeats 1000000
namespace K30
open PySem L2 L3 KM PyProof.Rows
seal L2.PE L2.PS L2.PSs L2.PT L2.PW L2.PA L2.PG L2.PGs L2.PI L2.PC L2.PO L2.PPs L2.PK L3.PIf
variable {P : Program} {w : World} {K : PySem.W.Frag} {mg : Str → Option Value} {base : Heap} {t : Adr}
theorem depth_get : ∀ {ps : List D} {i : Nat} {p : D}, ps[i]? = some p → depth p ≤ depthL ps
  | [], _, _, e => by simp at e
  | p :: ps, 0, _, e => by
    simp at e
    subst e
    simp only [depthL]
    omega
  | _ :: ps, i + 1, p, e => by
    have := depth_get (ps := ps) (i := i) (by simpa using e)
    simp only [depthL]
    omega
end K30
end
section
namespace L3
open PySem PySem.Spec PyProof.Rows L2 KM
theorem cat_tup0 {prog : Program} {w : World} {A : Around} {E : Value → Shared → Prop} {s : Shared} {t b : Addr} {ws : List Value} {Q : Value → Shared → Prop} (ht : IsTup s.heap t (([] : List Value)).toArray) (hb : IsTup s.heap b ws.toArray) (h1 : Q (.ref b) s) :
    wpAny (model prog w) A (binaryOp .Add (.ref t) (.ref b)) Q E s := by
  obtain ⟨⟨cls, dd, data, sl⟩, ho, hc, n, hd⟩ := id ht
  obtain ⟨⟨cls2, dd2, data2, sl2⟩, ho2, hc2, n2, hd2⟩ := id hb
  simp only at hc hd hc2 hd2
  subst hc hd hc2 hd2
  exact concat_meets ⟨_, ho, rfl⟩ ⟨_, ho2, rfl⟩ noFill_tuple_add seq_tuple_add PySem.F.slot_tuple_add PySem.F.entry_tuple_add (PySem.F.args_tuple_add_2 _ _) (tuple_addW0 t b _ ws.toArray n n2 dd dd2 sl sl2 (by simp)) ⟨ho, ho2, h1⟩
def rCat0 (K : PySem.W.Frag) : R2 := fun x y H Q => ∃ a b xs ys, x = .ref a ∧ y = .ref b ∧ SqT K H a xs ∧ SqT K H b ys ∧ xs.length + ys.length ≤ sizeLine ∧ (xs = [] → Q (.ref b) H) ∧ (xs ≠ [] → ys = [] → Q (.ref a) H) ∧
  (xs ≠ [] → ys ≠ [] → ∀ p, H p = none → Q (.ref p) (upd H p (.tup (xs ++ ys))))
theorem op_cat0 {X : Cx} : OpR X (binaryOp .Add) (rCat0 X.K) := by
  intro pins s σ H x y v u Q I rx ry h
  obtain ⟨a, b, xs, ys, rfl, rfl, ha, hb, hz, q0, q1, q2⟩ := h
  by_cases hx : xs = []
  · cases rx
    cases ry
    subst hx
    obtain ⟨its, r1, p1, _⟩ := I.tuple ha
    obtain ⟨its2, r2, p2, _⟩ := I.tuple hb
    have e : its = [] := r1.nil_iff.mpr rfl
    subst e
    exact cat_tup0 p1 p2 ⟨.ref b, H, I, rfl, q0 rfl⟩
  · exact op_catT pins s σ H _ _ v u Q I rx ry ⟨a, b, xs, ys, rfl, rfl, ha, hb, hx, hz, q1 hx, q2 hx⟩
theorem SlR.imp {X : Cx} {r r' : V → Option Int → Option Int → Hp → VK → Prop} (h : SlR X r) (i : ∀ x lo hi H Q, r' x lo hi H Q → r x lo hi H Q) : SlR X r' := by
  intro a1 a2 a3 a4 a5 a6 a7 a8 a9 b1 b2 b3 b4
  intros
  apply h <;> first | assumption | (apply i; assumption)
def rSlU : V → Option Int → Option Int → Hp → VK → Prop := fun x lo hi H Q => ∃ a xs, x = .ref a ∧ H a = some (.tup xs) ∧ ∀ b H', Same H H' → H' b = some (.tup (cutV xs lo hi)) → Q (.ref b) H'
theorem sl_tupU {X : Cx} : SlR X rSlU := SlR.imp sl_tupW fun x lo hi H Q ⟨a, xs, e, h, q⟩ => ⟨a, xs, e, SqT.of h, fun p hp => q p _ (same_new hp _) upd_same, fun z => q a H (Same.refl H) (by rw [z]; exact h)⟩
def rCatU : R2 := fun x y H Q => ∃ a b xs ys, x = .ref a ∧ y = .ref b ∧ H a = some (.tup xs) ∧ H b = some (.tup ys) ∧ xs.length + ys.length ≤ sizeLine ∧ ∀ p H', Same H H' → H' p = some (.tup (xs ++ ys)) → Q (.ref p) H'
theorem op_catU {X : Cx} : OpR X (binaryOp .Add) rCatU := by
  intro pins s σ H x y v u Q I rx ry h
  obtain ⟨a, b, xs, ys, rfl, rfl, ha, hb, hz, q⟩ := h
  refine op_cat0 pins s σ H _ _ v u Q I rx ry ⟨a, b, xs, ys, rfl, rfl, SqT.of ha, SqT.of hb, hz, fun e => ?_, fun _ e => ?_, fun _ _ p hp => q p _ (same_new hp _) upd_same⟩
  · subst e
    exact q b H (Same.refl H) hb
  · subst e
    exact q a H (Same.refl H) (by rw [List.append_nil]; exact ha)
mutual
theorem Rep.updL {H : Hp} {p : Addr} {xs : List V} {o : HO} (h : H p = some (.lst xs)) : ∀ {d : D} {v : V}, Rep H d v → Rep (upd H p o) d v
  | .non, _, r => r
  | .bl _, _, r => r
  | .int _, _, r => r
  | .str _, _, r => r
  | .tup _, _, ⟨a, vs, e, q, r⟩ => ⟨a, vs, e, by rw [upd_ne (ne_of q h (by simp))]; exact q, Reps.updL h r⟩
theorem Reps.updL {H : Hp} {p : Addr} {xs : List V} {o : HO} (h : H p = some (.lst xs)) : ∀ {ds : List D} {vs : List V}, Reps H ds vs → Reps (upd H p o) ds vs
  | [], _, r => r
  | _ :: _, _, ⟨v, r, e, q, t⟩ => ⟨v, r, e, Rep.updL h q, Reps.updL h t⟩
end
end L3
namespace L3
open PySem PySem.Spec PyProof.Rows L2
end L3
end
section
namespace L3
open PySem PySem.Spec PyProof.Rows L2 KM
theorem get_le_sum : ∀ (ns : List Nat) (k : Nat), (ns[k]?).getD 0 ≤ ns.sum
  | [], _ => by simp
  | n :: ns, 0 => by simp
  | n :: ns, k + 1 => by
    have := get_le_sum ns k
    simp only [List.getElem?_cons_succ, List.sum_cons]
    omega
end L3
end
section
set_option maxHeartbeats 1000000
namespace K30
open PySem L2 L3 KM PyProof.Rows
seal L2.PE L2.PS L2.PSs L2.PT L2.PW L2.PA L2.PG L2.PGs L2.PI L2.PC L2.PO L2.PPs L2.PK L3.PIf
variable {P : Program} {w : World} {K : PySem.W.Frag} {mg : Str → Option Value} {base : Heap} {t : Adr}
mutual
def plc : D → List (List Nat)
  | .tup (.str x :: ps) => [] :: (if leafW x = true then [] else plcL 0 ps)
  | _ => []
def plcL : Nat → List D → List (List Nat)
  | _, [] => []
  | i, d :: ds => (plc d).map (i :: ·) ++ plcL (i + 1) ds
end
theorem take_snoc {l : List D} {i : Nat} {d : D} (h : l[i]? = some d) : l.take (i + 1) = l.take i ++ [d] := by
  rw [List.take_add_one, h]
  rfl
def plD (pl : List Nat) : D := .tup (pl.map fun i => .int (i : Nat))
theorem range_map {α β : Type} (g : α → β) (z : α) (l : List α) : (List.range l.length).map (fun j => g ((l[j]?).getD z)) = l.map g := by
  induction l with
  | nil => rfl
  | cons a l ih =>
    rw [List.length_cons, List.range_succ_eq_map, List.map_cons, List.map_map, List.map_cons, ← ih]
    rfl
theorem wf_form {nm : D → Bool} {k : Bool} : ∀ {d : D}, wfG nm k d = true → ∃ x ps, d = .tup (.str x :: ps)
  | .tup (.str x :: ps), _ => ⟨x, ps, rfl⟩
  | .tup [], h => by simp [wfG] at h
  | .tup (.non :: _), h => by simp [wfG] at h
  | .tup (.bl _ :: _), h => by simp [wfG] at h
  | .tup (.int _ :: _), h => by simp [wfG] at h
  | .tup (.tup _ :: _), h => by simp [wfG] at h
  | .non, h => by simp [wfG] at h
  | .bl _, h => by simp [wfG] at h
  | .int _, h => by simp [wfG] at h
  | .str _, h => by simp [wfG] at h
theorem wfL_kid {nm : D → Bool} : ∀ {cs : List Nat} {ps : List D} {i : Nat} {p : D}, wfL nm cs ps = true → (∀ c ∈ cs, c = 107 ∨ c = 116) → ps[i]? = some p → ∃ k, wfG nm k p = true
  | [], [], _, _, _, _, e => by simp at e
  | [], _ :: _, _, _, h, _, _ => by simp [wfL] at h
  | _ :: _, [], _, _, h, _, _ => by simp [wfL] at h
  | c :: cs, q :: ps, 0, p, h, hc, e => by
    simp at e
    subst e
    rw [wfL_cons, Bool.and_eq_true] at h
    have h1 := h.1
    unfold dueB at h1
    rcases hc c List.mem_cons_self with z | z
    · rw [z, if_pos rfl] at h1
      exact ⟨true, h1⟩
    · rw [z, if_neg (by decide), if_pos rfl] at h1
      exact ⟨false, h1⟩
  | c :: cs, q :: ps, i + 1, p, h, hc, e => by
    rw [wfL_cons, Bool.and_eq_true] at h
    exact wfL_kid (i := i) h.2 (fun c hc' => hc c (List.mem_cons_of_mem _ hc')) (by simpa using e)
theorem wf_kid {k : Bool} {x : Str} {ps : List D} {i : Nat} {p : D} (h : wfG isStrD k (.tup (.str x :: ps)) = true) (e : (kidsD x ps)[i]? = some p) : (∃ k, wfG isStrD k p = true) ∧ depth p < depth (.tup (.str x :: ps)) := by
  obtain ⟨s, h1, h2, h3, h4, h5, h6, h7, _⟩ := wf_shape h
  unfold kidsD at e
  split at e
  · simp at e
  · rename_i nl
    refine ⟨wfL_kid h3 (h7 (by simpa using nl)) e, ?_⟩
    have := depth_get e
    simp only [depth, depthL]
    omega
theorem kids4 {k : Bool} {x : Str} {ps : List D} (h : wfG isStrD k (.tup (.str x :: ps)) = true) : (kidsD x ps).length ≤ 4 := by
  obtain ⟨s, h1, h2, h3, h4, h5, h6, h7, _⟩ := wf_shape h
  unfold kidsD
  split
  · exact Nat.zero_le _
  · rw [← h5]; simpa using h4
structure Rt (d : D) (n : Nat) : Prop where
  wf : ∃ k, wfG isStrD k d = true
  dp : depth d < n
  ct : (plc d).length ≤ 2000000
  n60 : n ≤ 60
theorem wf_app {nm : D → Bool} {d0 d1 : D} (h0 : wfG nm false d0 = true) (h1 : wfG nm false d1 = true) : wfG nm false (.tup [.str "app", d0, d1]) = true := by
  refine wfG_mk (w := "app") (s := "tt") (by decide +kernel) (by decide +kernel) ?_
  rw [show (Str.ofString "tt").cps.toList = [116, 116] by decide +kernel, wfL_cons, wfL_cons]
  simp [dueB, wfL, h0, h1]
theorem wf_fun {nm : D → Bool} {d0 d1 : D} (h0 : wfG nm true d0 = true) (h1 : wfG nm false d1 = true) : wfG nm false (.tup [.str "fun", d0, d1]) = true := by
  refine wfG_mk (w := "fun") (s := "kt") (by decide +kernel) (by decide +kernel) ?_
  rw [show (Str.ofString "kt").cps.toList = [107, 116] by decide +kernel, wfL_cons, wfL_cons]
  simp [dueB, wfL, h0, h1]
theorem wf_same {nm : D → Bool} {d0 d1 d2 : D} (h0 : wfG nm true d0 = true) (h1 : wfG nm false d1 = true) (h2 : wfG nm false d2 = true) : wfG nm true (.tup [.str "same", d0, d1, d2]) = true := by
  refine wfG_mk (w := "same") (s := "ktt") (by decide +kernel) (by decide +kernel) ?_
  rw [show (Str.ofString "ktt").cps.toList = [107, 116, 116] by decide +kernel, wfL_cons, wfL_cons, wfL_cons]
  simp [dueB, wfL, h0, h1, h2]
theorem wf_rec {nm : D → Bool} {d0 d1 d2 d3 : D} (h0 : wfG nm true d0 = true) (h1 : wfG nm false d1 = true) (h2 : wfG nm false d2 = true) (h3 : wfG nm false d3 = true) : wfG nm false (.tup [.str "rec", d0, d1, d2, d3]) = true := by
  refine wfG_mk (w := "rec") (s := "kttt") (by decide +kernel) (by decide +kernel) ?_
  rw [show (Str.ofString "kttt").cps.toList = [107, 116, 116, 116] by decide +kernel, wfL_cons, wfL_cons, wfL_cons, wfL_cons]
  simp [dueB, wfL, h0, h1, h2, h3]
theorem wf_carry {nm : D → Bool} {d0 d1 d2 : D} (h0 : wfG nm true d0 = true) (h1 : wfG nm false d1 = true) (h2 : wfG nm false d2 = true) : wfG nm false (.tup [.str "carry", d0, d1, d2]) = true := by
  refine wfG_mk (w := "carry") (s := "ktt") (by decide +kernel) (by decide +kernel) ?_
  rw [show (Str.ofString "ktt").cps.toList = [107, 116, 116] by decide +kernel, wfL_cons, wfL_cons, wfL_cons]
  simp [dueB, wfL, h0, h1, h2]
theorem wf_all {nm : D → Bool} {d0 d1 : D} (h0 : wfG nm true d0 = true) (h1 : wfG nm true d1 = true) : wfG nm true (.tup [.str "all", d0, d1]) = true := by
  refine wfG_mk (w := "all") (s := "kk") (by decide +kernel) (by decide +kernel) ?_
  rw [show (Str.ofString "kk").cps.toList = [107, 107] by decide +kernel, wfL_cons, wfL_cons]
  simp [dueB, wfL, h0, h1]
theorem wf_some {nm : D → Bool} {d0 d1 : D} (h0 : wfG nm true d0 = true) (h1 : wfG nm true d1 = true) : wfG nm true (.tup [.str "some", d0, d1]) = true := by
  refine wfG_mk (w := "some") (s := "kk") (by decide +kernel) (by decide +kernel) ?_
  rw [show (Str.ofString "kk").cps.toList = [107, 107] by decide +kernel, wfL_cons, wfL_cons]
  simp [dueB, wfL, h0, h1]
theorem wf_first {nm : D → Bool} {d0 : D} (h0 : wfG nm false d0 = true) : wfG nm false (.tup [.str "first", d0]) = true := by
  refine wfG_mk (w := "first") (s := "t") (by decide +kernel) (by decide +kernel) ?_
  rw [show (Str.ofString "t").cps.toList = [116] by decide +kernel, wfL_cons]
  simp [dueB, wfL, h0]
theorem wf_never {nm : D → Bool} {d0 d1 : D} (h0 : wfG nm true d0 = true) (h1 : wfG nm false d1 = true) : wfG nm false (.tup [.str "never", d0, d1]) = true := by
  refine wfG_mk (w := "never") (s := "kt") (by decide +kernel) (by decide +kernel) ?_
  rw [show (Str.ofString "kt").cps.toList = [107, 116] by decide +kernel, wfL_cons, wfL_cons]
  simp [dueB, wfL, h0, h1]
theorem wf_nat {nm : D → Bool}  : wfG nm true (.tup [.str "nat"]) = true := by
  refine wfG_mk (w := "nat") (s := "") (by decide +kernel) (by decide +kernel) ?_
  rw [show (Str.ofString "").cps.toList = [] by decide +kernel]
  simp [dueB, wfL]
theorem wf_zero {nm : D → Bool}  : wfG nm false (.tup [.str "zero"]) = true := by
  refine wfG_mk (w := "zero") (s := "") (by decide +kernel) (by decide +kernel) ?_
  rw [show (Str.ofString "").cps.toList = [] by decide +kernel]
  simp [dueB, wfL]
theorem wf_next {nm : D → Bool} {d0 : D} (h0 : wfG nm false d0 = true) : wfG nm false (.tup [.str "next", d0]) = true := by
  refine wfG_mk (w := "next") (s := "t") (by decide +kernel) (by decide +kernel) ?_
  rw [show (Str.ofString "t").cps.toList = [116] by decide +kernel, wfL_cons]
  simp [dueB, wfL, h0]
theorem rep_new {H : Hp} {p : Addr} {ds : List D} {vs : List V} (hp : H p = none) (r : Reps H ds vs) : Rep (upd H p (.tup vs)) (.tup ds) (.ref p) := ⟨p, vs, rfl, upd_same, r.mono (same_new hp _)⟩
theorem rs {H : Hp} {d : D} {v : V} {ds : List D} {vs : List V} (r : Rep H d v) (t : Reps H ds vs) : Reps H (d :: ds) (v :: vs) := ⟨v, vs, rfl, r, t⟩
theorem r0 {H : Hp} : Reps H [] [] := rfl
theorem rw_ {H : Hp} {x : Str} (h : x.length ≤ 1000 := by decide) : Rep H (.str x) (.str x) := ⟨rfl, h⟩
theorem ri {H : Hp} {i : Int} : Rep H (.int i) (.int i) := rfl
structure Th (d : D) (dp kn : Nat) : Prop where
  wf : wfG isStrD false d = true
  dp : depth d ≤ dp
  kn : knots d ≤ kn
def Wf (d : D) : Prop := ∃ k, wfG isStrD k d = true
theorem wf_ps {d : D} (h : Wf d) : ∃ x ps k, d = .tup (.str x :: ps) ∧ wfG isStrD k d = true ∧ ps.length ≤ 10 := by
  obtain ⟨k, h⟩ := h
  obtain ⟨x, ps, rfl⟩ := wf_form h
  obtain ⟨sh, _, _, _, h4, h5, _⟩ := wf_shape h
  refine ⟨x, ps, k, rfl, h, ?_⟩
  rw [← h5]
  exact Nat.le_trans (by simpa using h4) (by decide)
end K30
end
section
namespace L3
open PySem PySem.Spec PyProof.Rows L2 KM
end L3
namespace L3
open PySem PySem.Spec PyProof.Rows L2 KM
end L3
end
section
namespace L3
open PySem PySem.Spec PyProof.Rows L2
end L3
end
section
namespace L3
open PySem PySem.Spec PyProof.Rows L2 KM
theorem eqV_int (a b : Int) : eqV (.int a) (.int b) = decide (a = b) := by
  rw [Bool.eq_iff_iff]
  simp [eqV]
theorem all_ints (ms ns : List Int) (h : ms.length = ns.length) : ((List.range ms.length).all fun j => eqV (((ms.map V.int)[j]?).getD .non) (((ns.map V.int)[j]?).getD .non)) = decide (ms = ns) := by
  rw [Bool.eq_iff_iff, List.all_eq_true, decide_eq_true_iff]
  constructor
  · intro z
    apply List.ext_getElem h
    intro j h1 h2
    have := z j (List.mem_range.mpr h1)
    rw [List.getElem?_map, List.getElem?_map, List.getElem?_eq_getElem h1, List.getElem?_eq_getElem h2] at this
    have : eqV (.int ms[j]) (.int ns[j]) = true := this
    rw [eqV_int] at this
    exact of_decide_eq_true this
  · rintro rfl j hj
    have h1 := List.mem_range.mp hj
    rw [List.getElem?_map, List.getElem?_eq_getElem h1]
    show eqV (.int ms[j]) (.int ms[j]) = true
    rw [eqV_int]
    exact decide_eq_true rfl
def rEqI (K : PySem.W.Frag) : R2 := fun x y H Q => ∃ (p q : Addr) (ms ns : List Int), x = .ref p ∧ y = .ref q ∧ SqT K H p (ms.map V.int) ∧ SqT K H q (ns.map V.int) ∧ Q (.bl (decide (ms = ns))) H
def rNeI (K : PySem.W.Frag) : R2 := fun x y H Q => ∃ (p q : Addr) (ms ns : List Int), x = .ref p ∧ y = .ref q ∧ SqT K H p (ms.map V.int) ∧ SqT K H q (ns.map V.int) ∧ Q (.bl (!decide (ms = ns))) H
theorem ints_eq {ms ns : List Int} {its jts : List Value} (l1 : its.length = (ms.map V.int).length) (l2 : jts.length = (ns.map V.int).length) :
    ((List.range (min its.toArray.size jts.toArray.size)).all (fun j => eqV (((ms.map V.int)[j]?).getD .non) (((ns.map V.int)[j]?).getD .non)) && its.toArray.size == jts.toArray.size) = decide (ms = ns) := by
  rw [List.size_toArray, List.size_toArray, l1, l2, List.length_map, List.length_map]
  by_cases h : ms.length = ns.length
  · rw [← h, Nat.min_self, all_ints ms ns h]
    simp
  · have e1 : (ms.length == ns.length) = false := by simpa using h
    rw [e1, Bool.and_false]
    exact (decide_eq_false fun z => h (by rw [z])).symm
theorem flat_ints (ms : List Int) : ∀ x ∈ ms.map V.int, flatV x = true := fun x h => by
  obtain ⟨i, _, rfl⟩ := List.mem_map.mp h
  rfl
theorem op_eqI {X : Cx} (hu : X.A.units + 1 < cLine) : OpR X (compareOp .Eq) (rEqI X.K) := by
  intro pins s σ H x y v u Q I rx ry h
  obtain ⟨p, q, ms, ns, rfl, rfl, hx, hy, h⟩ := h
  cases rx
  cases ry
  obtain ⟨its, r1, p1, _⟩ := I.tuple hx
  obtain ⟨jts, r2, p2, _⟩ := I.tuple hy
  have l1 := r1.length
  have l2 := r2.length
  refine SeqAt.eq_tupleAt p1 p2 (e := fun j => eqV (((ms.map V.int)[j]?).getD .non) (((ns.map V.int)[j]?).getD .non)) (by omega) (fun j h1 h2 => ?_) ⟨.bl _, H, I, rfl, ?_⟩
  · have g1 : j < (ms.map V.int).length := by simpa [l1] using h1
    have g2 : j < (ns.map V.int).length := by simpa [l2] using h2
    obtain ⟨u1, e1, k1⟩ := r1.get (i := j) (x := (ms.map V.int)[j]) (List.getElem?_eq_getElem g1)
    obtain ⟨u2, e2, k2⟩ := r2.get (i := j) (x := (ns.map V.int)[j]) (List.getElem?_eq_getElem g2)
    have m1 : its.toArray[j] = u1 := by
      have : its[j]? = some its.toArray[j] := by simp
      rw [e1] at this
      exact (Option.some.inj this).symm
    have m2 : jts.toArray[j] = u2 := by
      have : jts[j]? = some jts.toArray[j] := by simp
      rw [e2] at this
      exact (Option.some.inj this).symm
    rw [m1, m2]
    simp only [List.getElem?_eq_getElem g1, List.getElem?_eq_getElem g2, Option.getD_some]
    exact eqAt_V k1 k2 (flat_ints ms _ (List.getElem_mem g1)) (flat_ints ns _ (List.getElem_mem g2))
  · rw [ints_eq l1.symm l2.symm]
    exact h
theorem op_neI {X : Cx} (hu : X.A.units + 1 < cLine) : OpR X (compareOp .NotEq) (rNeI X.K) := by
  intro pins s σ H x y v u Q I rx ry h
  obtain ⟨p, q, ms, ns, rfl, rfl, hx, hy, h⟩ := h
  cases rx
  cases ry
  obtain ⟨its, r1, p1, _⟩ := I.tuple hx
  obtain ⟨jts, r2, p2, _⟩ := I.tuple hy
  have l1 := r1.length
  have l2 := r2.length
  refine SeqAt.RcNeAt.tuples p1 p2 (e := fun j => eqV (((ms.map V.int)[j]?).getD .non) (((ns.map V.int)[j]?).getD .non)) (by omega) (fun j h1 h2 => ?_) _ _ _ _ ⟨.bl _, H, I, rfl, ?_⟩
  · have g1 : j < (ms.map V.int).length := by simpa [l1] using h1
    have g2 : j < (ns.map V.int).length := by simpa [l2] using h2
    obtain ⟨u1, e1, k1⟩ := r1.get (i := j) (x := (ms.map V.int)[j]) (List.getElem?_eq_getElem g1)
    obtain ⟨u2, e2, k2⟩ := r2.get (i := j) (x := (ns.map V.int)[j]) (List.getElem?_eq_getElem g2)
    have m1 : its.toArray[j] = u1 := by
      have : its[j]? = some its.toArray[j] := by simp
      rw [e1] at this
      exact (Option.some.inj this).symm
    have m2 : jts.toArray[j] = u2 := by
      have : jts[j]? = some jts.toArray[j] := by simp
      rw [e2] at this
      exact (Option.some.inj this).symm
    rw [m1, m2]
    simp only [List.getElem?_eq_getElem g1, List.getElem?_eq_getElem g2, Option.getD_some]
    exact eqAt_V k1 k2 (flat_ints ms _ (List.getElem_mem g1)) (flat_ints ns _ (List.getElem_mem g2))
  · rw [ints_eq l1.symm l2.symm]
    exact h
theorem op_eqIK {X : Cx} {K : PySem.W.Frag} (hu : X.A.units + 1 < cLine) (hK : X.K = K := by rfl) : OpR X (compareOp .Eq) (rEqI K) := by subst hK; exact op_eqI hu
theorem op_neIK {X : Cx} {K : PySem.W.Frag} (hu : X.A.units + 1 < cLine) (hK : X.K = K := by rfl) : OpR X (compareOp .NotEq) (rNeI K) := by subst hK; exact op_neI hu
end L3
end
section
set_option maxHeartbeats 1000000
namespace K30
open PySem L2 L3 KM PyProof.Rows
seal L2.PE L2.PS L2.PSs L2.PT L2.PW L2.PA L2.PG L2.PGs L2.PI L2.PC L2.PO L2.PPs L2.PK L3.PIf
variable {P : Program} {w : World} {K : PySem.W.Frag} {mg : Str → Option Value} {base : Heap} {t : Adr}
structure Tp (K : PySem.W.Frag) (a p : Addr) (ns : List Int) (H : Hp) (i : Int) : Prop where
  src : (a ≠ p ∧ Rd H a (.lst (ns.map V.int))) ∨ ∀ H' : Hp, SqL K H' a (ns.map V.int)
  len : ns.length ≤ 63
  tape : H p = some (.lst [.int i])
  i0 : 0 ≤ i
theorem Tp.scr {a p : Addr} {ns : List Int} {H : Hp} {i : Int} (T : Tp K a p ns H i) (H' : Hp) (s : SameX p H H') : SqL K H' a (ns.map V.int) := by
  rcases T.src with ⟨n, h | ⟨o, h⟩⟩ | h
  · exact .inl (.inl (s _ _ n h))
  · exact .inl (.inr ⟨o, s _ _ n h⟩)
  · exact h H'
theorem Tp.next {a p : Addr} {ns : List Int} {H H' : Hp} {i j : Int} (T : Tp K a p ns H i) (s : SameX p H H') (h : H' p = some (.lst [.int j])) (hj : 0 ≤ j) : Tp K a p ns H' j :=
  ⟨by
    rcases T.src with ⟨n, h | ⟨o, h⟩⟩ | h
    · exact .inl ⟨n, .inl (s _ _ n h)⟩
    · exact .inl ⟨n, .inr ⟨o, s _ _ n h⟩⟩
    · exact .inr h, T.len, h, hj⟩
theorem Tp.mono {a p : Addr} {ns : List Int} {H H' : Hp} {i : Int} (T : Tp K a p ns H i) (s : Same H H') : Tp K a p ns H' i := T.next s.x (s _ _ T.tape) T.i0
theorem Tp.rep {a p : Addr} {ns : List Int} {H H' : Hp} {i : Int} {d : D} {v : V} (T : Tp K a p ns H i) (s : SameX p H H') (r : Rep H d v) : Rep H' d v :=
  r.monoX s fun vs z => by rw [T.tape] at z; cases z
def spDraw (K : PySem.W.Frag) : Sp := fun vs H Q _ => ∃ (a p : Addr) (ns : List Int) (i m : Int), vs = [.ref a, .ref p, .int m] ∧ Tp K a p ns H i ∧ i < 2 ^ 60 ∧ 0 < m ∧
  ∀ (z : Int) (H' : Hp), 0 ≤ z → z < m → SameX p H H' → H' p = some (.lst [.int (i + 1)]) → Q (.int z) H'
theorem sc_law_draw : FnScope ["_law_script", "_law_tape", "_law_many", "_law_seed", "_law_cell"] ["_law_script", "_law_tape", "_law_many"] (defScope s_law_draw) := ⟨rfl, rfl, rfl, by decide +kernel, rfl, by decide +kernel, by decide +kernel⟩
theorem c_law_draw (D : Df K mg "_law_draw" s_law_draw ["_law_script", "_law_tape", "_law_many"]) (M : Mg mg t) : Cal P w K mg CX0 "_law_draw" (1) ["_law_script", "_law_tape", "_law_many"] (spDraw K) := by
  refine D.ok sc_law_draw (fun vs H Q E h => ?_) (fun base f cdv A outer s H vs Q E hr h => ?_)
  · obtain ⟨a, p, ns, i, m, rfl, _⟩ := h
    rfl
  obtain ⟨a, p, ns, i, m, rfl, T, hi, hm, q⟩ := h
  have i0 := T.i0
  refine ⟨_, (pss_cons (ps_asg (pe_op op_add (pe_ix ix_list (pv 1) pe_int (fun _ _ => rfl)) pe_int) (pg_sub (pv 1) pe_int set_list))
      (pss_cons (ps_if (pt_cmpR op_le (pe_ix ix_list (pv 1) pe_int (fun _ _ => rfl)) (pe_callB call_len_seq rfl M.n_len bt_len (pa_cons (pv 0) pa_nil)) (nomark _)) (pss_one (ps_ret (pe_op op_mod (pe_ix ix_list (pv 0) (pe_op op_sub (pe_ix ix_list (pv 1) pe_int (fun _ _ => rfl)) pe_int) (fun _ _ => rfl)) (pv 2)))) pss_nil)
      (pss_cons (ps_set (i := 3) sc_law_draw.nd rfl (by first | exact Or.inl rfl | exact Or.inr rfl) (pe_callB call_len_seq rfl M.n_len bt_len (pa_cons (pv 0) pa_nil)))
      (pss_cons (ps_for PassesOwn.never rfl (pi_list (pe_slice sl_list (pv 0) po_none (po_some pe_int))) (pg_name (i := 4) sc_law_draw.nd rfl (by first | exact Or.inl rfl | exact Or.inr rfl)) (pss_one (ps_set (i := 3) sc_law_draw.nd rfl (by first | exact Or.inl rfl | exact Or.inr rfl) (pe_op op_mod (pe_op op_add (pe_op op_mul (pv 3) pe_int) (pv 4)) pe_int))))
      (pss_one (ps_ret (pe_op op_mod (pe_op op_mod (pe_op op_mul (pe_op op_add (pv 3) pe_int) (pe_op op_add (pe_op op_mul (pe_ix ix_list (pv 1) pe_int (fun _ _ => rfl)) (pe_ix ix_list (pv 1) pe_int (fun _ _ => rfl))) pe_int)) pe_int) (pv 2)))))))), ?_⟩
  try dsimp only [cxK, cxK2]
  refine let5 ?_
  intro _ _ _ _ _
  refine ⟨_, rfl, p, _, _, _, rfl, rfl, SqL.of T.tape, rfl, _, _, rfl, rfl, _, rfl, p, _, _, 0, rfl, rfl, T.tape, rfl, ?_⟩
  have e1 : (upd H p (.lst ([V.int i].set 0 (V.int (i + 1))))) p = some (.lst [.int (i + 1)]) := upd_same
  have x1 : SameX p H (upd H p (.lst ([V.int i].set 0 (V.int (i + 1))))) := SameX.upd _
  generalize upd H p (.lst ([V.int i].set 0 (V.int (i + 1)))) = H1 at e1 x1 ⊢
  have hS := T.scr H1 x1
  have hl : (ns.map V.int).length = ns.length := List.length_map _
  have hlen := T.len
  refine ⟨_, rfl, p, _, _, _, rfl, rfl, SqL.of e1, rfl, _, rfl, a, _, rfl, .inl hS, _, _, rfl, rfl, _, rfl, ?_⟩
  refine ite2 (fun c => ?_) (fun c => ?_)
  · have c : i + 1 ≤ (((ns.map V.int).length : Nat) : Int) := of_decide_eq_true c
    have hk : i.toNat < ns.length := by rw [hl] at c; omega
    have e2 : (i + 1 - 1 : Int) = ((i.toNat : Nat) : Int) := by omega
    refine ⟨_, rfl, _, rfl, p, _, _, _, rfl, rfl, SqL.of e1, rfl, _, _, rfl, rfl, a, _, _, .int ns[i.toNat], rfl, rfl, hS, ?_, _, rfl, _, _, rfl, rfl, hm, ?_⟩
    · rw [e2]
      exact atI_nat (by rw [List.getElem?_map, List.getElem?_eq_getElem hk]; rfl)
    · exact q _ H1 (Int.emod_nonneg _ (by omega)) (Int.emod_lt_of_pos _ hm) x1 e1
  · refine ⟨_, rfl, a, _, rfl, .inl hS, ?_⟩
    refine ⟨_, rfl, _, rfl, a, _, rfl, hS, fun p2 hp2 => ?_⟩
    have s2 := same_new hp2 (.lst (cutV (ns.map V.int) none (some 4)))
    have n2 : p ≠ p2 := ne_of_none e1 hp2
    have h2 : (upd H1 p2 (.lst (cutV (ns.map V.int) none (some 4)))) p2 = some (.lst (cutV (ns.map V.int) none (some 4))) := upd_same
    rw [show (4 : Int) = ((4 : Nat) : Int) from rfl, cutV_to, ← List.map_take] at s2 h2 ⊢
    generalize upd H1 p2 (.lst ((ns.take 4).map V.int)) = H2 at s2 h2 ⊢
    refine ⟨p2, rfl, ⟨_, SqL.of h2⟩, ?_⟩
    let Ifr : Nat → L2.St → Hp → Prop := (fun j σ' H' => ∃ (z : Int) (cv : Option V), σ' = [some (.ref a), some (.ref p), some (.int m), some (.int z), cv] ∧ 0 ≤ z ∧ z < 2000000 ∧ H' = H2)
    refine for_by (ns.take 4).length Ifr ?_ ?_ ?_
    · exact ⟨_, none, rfl, by omega, by rw [hl]; omega, rfl⟩
    · rintro j σ' H' hj ⟨z, cv, rfl, z0, z1, rfl⟩
      have hj' : (ns.take 4)[j]? = some (ns.take 4)[j] := List.getElem?_eq_getElem hj
      have hw : ((ns.take 4).map V.int)[j]? = some (.int (ns.take 4)[j]) := by rw [List.getElem?_map, hj']; rfl
      refine ⟨⟨_, _, SqL.of h2, hw⟩, ?_⟩
      rintro x' H3 ⟨rfl, hy⟩
      have hy := hy _ (SqL.of h2)
      rw [hw] at hy
      cases hy
      refine ⟨_, rfl, _, _, rfl, rfl, .inl ⟨by omega, by omega⟩, _, rfl, _, _, rfl, rfl, _, _, rfl, rfl, (by show (0 : Int) < 1000003; decide), ?_⟩
      refine ⟨_, _, rfl, Int.emod_nonneg _ (by decide), ?_, rfl⟩
      have := Int.emod_lt_of_pos (z * 131 + (ns.take 4)[j]) (show (0 : Int) < 1000003 by decide)
      omega
    · rintro σ' H' ⟨z, cv, rfl, z0, z1, rfl⟩
      have e2 := s2 _ _ e1
      refine ⟨⟨_, SqL.of h2, by rw [List.length_map]; exact Nat.le_refl _⟩, ?_⟩
      refine ⟨_, rfl, _, _, rfl, rfl, _, rfl, p, _, _, _, rfl, rfl, SqL.of e2, rfl, _, rfl, p, _, _, _, rfl, rfl, SqL.of e2, rfl, _, _, rfl, rfl, .inl ⟨by omega, by omega⟩, _, _, rfl, rfl, _, _, rfl, rfl, .inl ⟨by omega, by omega⟩, _, _, rfl, rfl, (by show (0 : Int) < 1000003; decide), _, rfl, _, _, rfl, rfl, hm, ?_⟩
      exact q _ _ (Int.emod_nonneg _ (by omega)) (Int.emod_lt_of_pos _ hm) (x1.trans s2.x) e2
end K30
end
section
namespace L3
open PySem PySem.Spec PyProof.Rows L2 KM
section
variable {X : Cx}
def rIndex : V → List V → Hp → VK → Prop := fun x vs H Q => ∃ (z y : Str) (i : Nat) (rest : List Nat), x = .str z ∧ vs = [.str y] ∧ Builtin.Str.occurrences z y 0 z.length 1 = i :: rest ∧ Q (.int (i : Nat)) H
theorem mt_index : MtR X "str.index" rIndex := by
  intro pins s σ H x vs v us Q I rx rv h
  obtain ⟨z, y, i, rest, rfl, rfl, ho, q⟩ := h
  obtain ⟨u, rfl, ru⟩ := rv.one
  obtain ⟨t, rfl⟩ := (show ∃ t, v = Value.str z t from rx)
  obtain ⟨t2, rfl⟩ := (show ∃ t, u = Value.str y t from ru)
  exact SC.index ho ⟨.int (i : Nat), H, I.tok _, ⟨_, rfl⟩, q⟩
theorem strs_are : ∀ {ys : List Str} {us : List Value}, Vals (ys.map V.str) us → StrsAre us ys
  | [], _, .nil => .nil
  | y :: ys, _, .cons r t => by
    obtain ⟨tk, rfl⟩ := (show ∃ t, _ = Value.str y t from r)
    exact .cons y tk (strs_are t)
def rJoin (K : PySem.W.Frag) : V → List V → Hp → VK → Prop := fun x vs H Q => ∃ (z : Str) (l : Addr) (ys : List Str), x = .str z ∧ vs = [.ref l] ∧ SqL K H l (ys.map V.str) ∧ (ys.map (·.length)).sum + ys.length * z.length ≤ 16777216 ∧ Q (.str (Txt.join z ys)) H
theorem mt_join : MtR X "str.join" (rJoin X.K) := by
  intro pins s σ H x vs v us Q I rx rv h
  obtain ⟨z, l, ys, rfl, rfl, hl, ho, q⟩ := h
  obtain ⟨u, rfl, ru⟩ := rv.one
  obtain ⟨t, rfl⟩ := (show ∃ t, v = Value.str z t from rx)
  cases ru
  obtain ⟨its, r, p, _⟩ := I.list hl
  exact join_list p.isList (by simpa using strs_are r) ho fun t' k => ⟨.str _, H, I.tok _, ⟨_, rfl⟩, q⟩
theorem call_min2 (hh : X.A.handled = none) : CallR X (.builtin "min") (fun xs H Q => ∃ i j : Int, xs = [.int i, .int j] ∧ Q (.int (if j < i then j else i)) H) := by
  intro pins s σ H xs us Q I r h
  obtain ⟨i, j, rfl, q⟩ := h
  obtain ⟨u1, u2, rfl, r1, r2⟩ := Vals.two r
  obtain ⟨t1, rfl⟩ := (show ∃ t, u1 = Value.int i t from r1)
  obtain ⟨t2, rfl⟩ := (show ∃ t, u2 = Value.int j t from r2)
  refine min_two_ints hh fun h' tk hk => ⟨.int (if j < i then j else i), H, I.kept (h' := h') (t' := tk) hk, ?_, q⟩
  split
  · exact ⟨_, rfl⟩
  · exact ⟨_, rfl⟩
theorem call_max2 (hh : X.A.handled = none) : CallR X (.builtin "max") (fun xs H Q => ∃ i j : Int, xs = [.int i, .int j] ∧ Q (.int (if j > i then j else i)) H) := by
  intro pins s σ H xs us Q I r h
  obtain ⟨i, j, rfl, q⟩ := h
  obtain ⟨u1, u2, rfl, r1, r2⟩ := Vals.two r
  obtain ⟨t1, rfl⟩ := (show ∃ t, u1 = Value.int i t from r1)
  obtain ⟨t2, rfl⟩ := (show ∃ t, u2 = Value.int j t from r2)
  refine max_two_ints hh fun h' tk hk => ⟨.int (if j > i then j else i), H, I.kept (h' := h') (t' := tk) hk, ?_, q⟩
  split
  · exact ⟨_, rfl⟩
  · exact ⟨_, rfl⟩
end
section
variable {X : Cx} {pins : List (Addr × Obj)} {σ : L2.St} {H : Hp} {s : Shared} {a : Addr} {D : List (Str × V)} {k : Str} {tk : Tok} {A : Around} {E : Value → Shared → Prop}
end
theorem bt_min : bootBuiltins "min" = some (.builtin "min") := by decide +kernel
theorem comp_prop {J : It} {p : Addr} {H1 : Hp} {g : TG} {te : TE} {b : L2.St} {C : Hp → Prop} (n : Nat) (B : Nat → V → Prop) (hp : H1 p = none) (hn : n ≤ sizeLine)
    (hgo : ∀ i H2, i < n → Same H1 H2 → J.go i H2 ∧ ∀ x H3, J.yld i H2 x H3 → ∀ (R : V → Hp → Prop), (∀ (z : V) H6, Same H2 H6 → B i z → R z H6) → g x b H3 fun σ4 H4 => te σ4 H4 R)
    (hd : ∀ (ns : List V) H2, Same H1 H2 → ns.length = n → (∀ (i : Nat) (z : V), ns[i]? = some z → B i z) → H2 p = some (.lst ns) → J.stop n H2 ∧ C H2) :
    ∃ W : Nat → Nat → List V → Hp → Prop, (∃ m, W 0 m [] (upd H1 p (.lst []))) ∧ ∀ i m acc H2, W i m acc H2 → (J.stop i H2 ∧ C H2) ∨ (J.go i H2 ∧ ∀ x H3, J.yld i H2 x H3 → g x b H3 fun σ4 H4 => tYes σ4 H4 fun ok H5 =>
      if ok = true then te σ4 H5 fun v H6 => H6 p = some (.lst acc) ∧ acc.length < sizeLine ∧ ∃ m', m' < m ∧ W (i + 1) m' (acc ++ [v]) (upd H6 p (.lst (acc ++ [v]))) else ∃ m', m' < m ∧ W (i + 1) m' acc H5) := by
  refine comp_by (Q := fun _ H => C H) n (fun i acc H2 => acc.length = i ∧ (∀ (j : Nat) (z : V), acc[j]? = some z → B j z) ∧ H2 p = some (.lst acc) ∧ Same H1 H2) ⟨rfl, fun j z e => by simp at e, upd_same, same_new hp _⟩ ?_ ?_
  · rintro i acc H2 hi ⟨hl, hB, h2, s2⟩
    obtain ⟨g1, g2⟩ := hgo i H2 hi s2
    refine ⟨g1, fun x H3 y => ?_⟩
    simp only [tYes, if_true]
    refine g2 x H3 y _ fun z H6 s6 hz => ⟨s6 _ _ h2, by omega, nx hi ⟨by simp [hl], fun j y e => ?_, upd_same, same_upd (s2.trans s6) hp⟩⟩
    by_cases hj : j < acc.length
    · rw [List.getElem?_append_left hj] at e
      exact hB j y e
    · rw [List.getElem?_append_right (by omega)] at e
      have : j - acc.length = 0 := by
        by_cases q : j - acc.length = 0
        · exact q
        · rw [List.getElem?_eq_none (by simp; omega)] at e; cases e
      rw [this] at e
      simp at e
      subst e
      have : j = i := by omega
      rw [this]
      exact hz
  · rintro acc H2 ⟨hl, hB, h2, s2⟩
    exact hd acc H2 s2 hl hB h2
end L3
end
section
set_option maxHeartbeats 1000000
namespace K30
open PySem L2 L3 KM PyProof.Rows
seal L2.PE L2.PS L2.PSs L2.PT L2.PW L2.PA L2.PG L2.PGs L2.PI L2.PC L2.PO L2.PPs L2.PK L3.PIf
variable {P : Program} {w : World} {K : PySem.W.Frag} {mg : Str → Option Value} {base : Heap} {t : Adr}
theorem big {m : Nat} (h : m ≤ 1000) : m ≤ sizeLine := Nat.le_trans h (by decide)
theorem lapp (a b : Str) : (a ++ b).length = a.length + b.length := Array.size_append
def spNamed : Sp := fun vs H Q _ => ∃ x : Str, vs = [.str x] ∧ x.length ≤ 100 ∧ ∀ (y : Str) (H' : Hp), y.length ≤ 101 → Same H H' → Q (.str y) H'
theorem sc_law_named : FnScope ["_law_word"] ["_law_word"] (defScope s_law_named) := ⟨rfl, rfl, rfl, by decide +kernel, rfl, by decide +kernel, by decide +kernel⟩
theorem c_law_named (D : Df K mg "_law_named" s_law_named ["_law_word"]) (M : Mg mg t) : Cal P w K mg CX0 "_law_named" (1) ["_law_word"] spNamed := by
  refine D.ok sc_law_named (fun vs H Q E h => ?_) (fun base f cdv A outer s H vs Q E hr h => ?_)
  · obtain ⟨x, rfl, _⟩ := h
    rfl
  obtain ⟨x, rfl, hx, q⟩ := h
  refine ⟨_, (pss_cons (ps_if (pt_cmpR op_in_seq (pv 0) (pe_tup (pa_cons pe_str (pa_cons pe_str (pa_cons pe_str (pa_cons pe_str (pa_cons pe_str (pa_cons pe_str (pa_cons pe_str (pa_cons pe_str (pa_cons pe_str (pa_cons pe_str (pa_cons pe_str (pa_cons pe_str (pa_cons pe_str pa_nil)))))))))))))) rfl) (pss_one (ps_ret (pe_op op_add_str (pe_slS (pv 0) po_none (po_some (pe_un un_neg pe_int)) po_none) pe_str))) pss_nil)
      (pss_cons (ps_if (pt_cmpR op_in_seq (pv 0) (pe_tup (pa_cons pe_str (pa_cons pe_str (pa_cons pe_str (pa_cons pe_str (pa_cons pe_str pa_nil)))))) rfl) (pss_one (ps_ret (pe_op op_add_str (pe_slS (pv 0) po_none (po_some (pe_un un_neg pe_int)) po_none) pe_str))) pss_nil)
      (pss_one (ps_ret (pv 0))))), ?_⟩
  try dsimp only [cxK, cxK2]
  refine let3 ?_
  intro _ _ _
  refine ⟨_, rfl, (by show 13 ≤ sizeLine; decide), fun p1 hp1 => ⟨p1, (["nat", "none", "all", "some", "same", "var", "fun", "app", "zero", "next", "rec", "like", "carry"] : List Str).map V.str, rfl, .inr (SqT.of upd_same), rfl, rfl, _, rfl, ?_⟩⟩
  have s1 : Same H _ := same_new hp1 (.tup ((["nat", "none", "all", "some", "same", "var", "fun", "app", "zero", "next", "rec", "like", "carry"] : List Str).map V.str))
  refine ite2 (fun c => ?_) (fun c => ?_)
  · refine ⟨_, rfl, _, rfl, _, rfl, x, rfl, big (by omega), (by simp), fun y hy => ⟨_, _, rfl, rfl, big (by show y.length + 1 ≤ 1000; omega), q _ _ (by rw [lapp]; show y.length + 1 ≤ 101; omega) s1⟩⟩
  · refine ⟨_, rfl, (by show 5 ≤ sizeLine; decide), fun p2 hp2 => ⟨p2, (["never", "pair", "first", "second", "name"] : List Str).map V.str, rfl, .inr (SqT.of upd_same), rfl, rfl, _, rfl, ?_⟩⟩
    have s2 := s1.trans (same_new hp2 (.tup ((["never", "pair", "first", "second", "name"] : List Str).map V.str)))
    refine ite2 (fun c => ?_) (fun c => ?_)
    · refine ⟨_, rfl, _, rfl, _, rfl, x, rfl, big (by omega), (by simp), fun y hy => ⟨_, _, rfl, rfl, big (by show y.length + 1 ≤ 1000; omega), q _ _ (by rw [lapp]; show y.length + 1 ≤ 101; omega) s2⟩⟩
    · exact ⟨_, rfl, q x _ (by omega) s2⟩
def letters : Str := "abcdefghijklmnopqrstuvwxyz"
def letC (j : Int) : Nat := (letters.cps.toList[(j % 26).toNat]?).getD 97
theorem let_len : letters.cps.toList.length = 26 := by decide +kernel
theorem let_at (j : Int) : atI letters.cps.toList (j % 26) = some (letC j) ∧ letC j ∈ letters.cps.toList := by
  have h0 := Int.emod_nonneg j (show (26 : Int) ≠ 0 by decide)
  have h1 := Int.emod_lt_of_pos j (show (0 : Int) < 26 by decide)
  have hl : (j % 26).toNat < letters.cps.toList.length := by rw [let_len]; omega
  have e : letters.cps.toList[(j % 26).toNat]? = some (letC j) := by
    unfold letC
    rw [List.getElem?_eq_getElem hl]
    rfl
  refine ⟨?_, List.mem_of_getElem? e⟩
  have ej : j % 26 = (((j % 26).toNat : Nat) : Int) := by omega
  rw [ej]
  exact atI_nat e
theorem let_idx : (letters.cps.toList.all fun c => match Builtin.Str.occurrences letters ⟨#[c]⟩ 0 letters.length 1 with
    | _ :: _ => true
    | [] => false) = true := by decide +kernel
theorem let_occ {c : Nat} (h : c ∈ letters.cps.toList) : ∃ i rest, Builtin.Str.occurrences letters ⟨#[c]⟩ 0 letters.length 1 = i :: rest := by
  have := List.all_eq_true.mp let_idx c h
  cases e : Builtin.Str.occurrences letters ⟨#[c]⟩ 0 letters.length 1 with
  | nil => rw [e] at this; cases this
  | cons i rest => exact ⟨i, rest, rfl⟩
theorem glue_fold : ∀ (cs : List Nat) (A : Array Nat), (cs.map fun c => (⟨#[c]⟩ : Str)).foldl (fun acc p => acc ++ (Str.ofString "").cps ++ p.cps) A = A ++ cs.toArray
  | [], A => by simp
  | c :: cs, A => by
    rw [List.map_cons, List.foldl_cons, glue_fold cs]
    have e : (Str.ofString "").cps = #[] := by decide +kernel
    rw [e]
    simp
theorem join_letters (cs : List Nat) : (Txt.join (Str.ofString "") (cs.map fun c => (⟨#[c]⟩ : Str))).cps.toList = cs := by
  cases cs with
  | nil => decide +kernel
  | cons c cs =>
    show ((((c :: cs).map fun c => (⟨#[c]⟩ : Str)).drop 1).foldl (fun acc p => acc ++ (Str.ofString "").cps ++ p.cps) (((c :: cs).map fun c => (⟨#[c]⟩ : Str)).headD Str.empty).cps).toList = c :: cs
    rw [List.map_cons, List.drop_succ_cons, List.drop_zero, glue_fold]
    simp
theorem sum_ones (cs : List Nat) : ((cs.map fun c => (⟨#[c]⟩ : Str)).map (·.length)).sum = cs.length := by
  induction cs with
  | nil => rfl
  | cons c cs ih =>
    rw [List.map_cons, List.map_cons, List.sum_cons, ih, List.length_cons]
    show 1 + cs.length = _
    omega
def spPool (K : PySem.W.Frag) : Sp := fun vs H Q _ => ∃ (a p : Addr) (ns : List Int) (i : Int), vs = [.ref a, .ref p] ∧ Tp K a p ns H i ∧ i < 2 ^ 59 ∧
  ∀ (c : Addr) (x y z : Str) (H' : Hp), x.length ≤ 101 → y.length ≤ 101 → z.length ≤ 101 → H' c = some (.lst [.str x, .str y, .str z]) → SameX p H H' → H' p = some (.lst [.int (i + 4)]) → Q (.ref c) H'
theorem sc_law_pool : FnScope ["_law_script", "_law_tape", "_law_letters", "_law_cell", "_law_size", "_law_word", "_law_at", "_law_other", "_law_words"] ["_law_script", "_law_tape"] (defScope s_law_pool) := ⟨rfl, rfl, rfl, by decide +kernel, rfl, by decide +kernel, by decide +kernel⟩
theorem c_law_pool (D : Df K mg "_law_pool" s_law_pool ["_law_script", "_law_tape"]) (M : Mg mg t) (F_law_draw : Cal P w K mg CX0 "_law_draw" (1) ["_law_script", "_law_tape", "_law_many"] (spDraw K)) (F_law_named : Cal P w K mg CX0 "_law_named" (1) ["_law_word"] spNamed) : Cal P w K mg CX0 "_law_pool" (2) ["_law_script", "_law_tape"] (spPool K) := by
  refine D.ok sc_law_pool (fun vs H Q E h => ?_) (fun base f cdv A outer s H vs Q E hr h => ?_)
  · obtain ⟨a, p, ns, i, rfl, _⟩ := h
    rfl
  obtain ⟨a, p, ns, i, rfl, T, hi, q⟩ := h
  refine ⟨_, (pss_cons (ps_set (i := 2) sc_law_pool.nd rfl (by first | exact Or.inl rfl | exact Or.inr rfl) pe_str)
      (pss_cons (ps_set (i := 3) sc_law_pool.nd rfl (by first | exact Or.inl rfl | exact Or.inr rfl) (pe_fn F_law_draw (hr.mono (by omega)) rfl pass0 (pa_cons (pv 0) (pa_cons (pv 1) (pa_cons (pe_op op_pow pe_int pe_int) pa_nil)))))
      (pss_cons (ps_set (i := 4) sc_law_pool.nd rfl (by first | exact Or.inl rfl | exact Or.inr rfl) (pe_op op_add pe_int (pe_fn F_law_draw (hr.mono (by omega)) rfl pass0 (pa_cons (pv 0) (pa_cons (pv 1) (pa_cons pe_int pa_nil))))))
      (pss_cons (ps_set (i := 5) sc_law_pool.nd rfl (by first | exact Or.inl rfl | exact Or.inr rfl) (pe_bm PySem.F.plainAttrs_str PySem.F.slot_str_join PySem.F.type_str_join mt_join pe_str (pa_cons (pe_comp (N' := ["_law_k", "_law_letters", "_law_cell"]) (own := 1) (fr := [2, 3]) rfl (blk_of (N := ["_law_script", "_law_tape", "_law_letters", "_law_cell", "_law_size", "_law_word", "_law_at", "_law_other", "_law_words"]) (sc := defScope s_law_pool) rfl rfl rfl (by decide +kernel)) (pi_range1 rfl M.n_range (pa_cons (pv 4) pa_nil)) (own_name (by decide)) (fun _ _ _ => (pg_name (i := 0) (show List.Nodup (["_law_k", "_law_letters", "_law_cell"] : List Str) by decide +kernel) rfl (Or.inl rfl))) (fun _ _ _ => pif_nil) (fun _ _ _ => (pe_ix ix_str (pv 1) (pe_op op_mod (pe_op op_add (pe_op op_fdiv (pv 2) (pe_op op_add (pv 0) pe_int)) (pe_op op_mul pe_int (pv 0))) pe_int) (fun _ _ => rfl)))) pa_nil)))
      (pss_cons (ps_set (i := 6) sc_law_pool.nd rfl (by first | exact Or.inl rfl | exact Or.inr rfl) (pe_fn F_law_draw (hr.mono (by omega)) rfl pass0 (pa_cons (pv 0) (pa_cons (pv 1) (pa_cons (pv 4) pa_nil)))))
      (pss_cons (ps_set (i := 7) sc_law_pool.nd rfl (by first | exact Or.inl rfl | exact Or.inr rfl) (pe_ix ix_str (pv 2) (pe_op op_mod (pe_op op_add (pe_op op_add (pe_bm PySem.F.plainAttrs_str PySem.F.slot_str_index PySem.F.type_str_index mt_index (pv 2) (pa_cons (pe_ix ix_str (pv 5) (pv 6) (fun _ _ => rfl)) pa_nil)) pe_int) (pe_fn F_law_draw (hr.mono (by omega)) rfl pass0 (pa_cons (pv 0) (pa_cons (pv 1) (pa_cons pe_int pa_nil))))) pe_int) (fun _ _ => rfl)))
      (pss_cons (ps_set (i := 8) sc_law_pool.nd rfl (by first | exact Or.inl rfl | exact Or.inr rfl) (pe_lst (pa_cons (pv 5) (pa_cons (pe_op op_add_str (pe_op op_add_str (pe_slS (pv 5) po_none (po_some (pv 6)) po_none) (pv 7)) (pe_slS (pv 5) (po_some (pe_op op_add (pv 6) pe_int)) po_none po_none)) (pa_cons (pe_slS (pe_op op_add_str (pv 7) (pv 5)) po_none (po_some pe_int) po_none) pa_nil)))))
      (pss_one (ps_ret (pe_comp (N' := ["_law_one"]) (own := 1) (fr := []) rfl (blk_of (N := ["_law_script", "_law_tape", "_law_letters", "_law_cell", "_law_size", "_law_word", "_law_at", "_law_other", "_law_words"]) (sc := defScope s_law_pool) rfl rfl rfl (by decide +kernel)) (pi_list (pv 8)) (own_name (by decide)) (fun _ _ _ => (pg_name (i := 0) (show List.Nodup (["_law_one"] : List Str) by decide +kernel) rfl (Or.inl rfl))) (fun _ _ _ => pif_nil) (fun _ _ _ => (pe_fn F_law_named (hr.mono (by omega)) rfl pass0 (pa_cons (pv 0) pa_nil))))))))))))), ?_⟩
  try dsimp only [cxK, cxK2]
  refine let8 ?_
  intro _ _ _ _ _ _ _ _
  refine ⟨_, rfl, _, rfl, _, _, rfl, rfl, ⟨by decide, by decide, by decide⟩, a, p, ns, i, _, rfl, T, (by omega), (by decide), fun cell H1 c0 c1 x1 h1 => ?_⟩
  have T1 := T.next x1 h1 (by have := T.i0; omega)
  refine ⟨_, rfl, _, rfl, a, p, ns, i + 1, 12, rfl, T1, (by omega), (by decide), fun sz H2 z0 z1 x2 h2 => ⟨_, _, rfl, rfl, ?_⟩⟩
  have T2 := T1.next x2 h2 (by have := T.i0; omega)
  obtain ⟨m, em⟩ : ∃ m : Nat, 1 + sz = (m : Int) := ⟨(1 + sz).toNat, by omega⟩
  show gName 4 (V.int (1 + sz)) _ _ _
  rw [em]
  refine ⟨rfl, _, rfl, _, rfl, (by show -(2 ^ 62) ≤ ((m : Nat) : Int); omega), (by show ((m : Nat) : Int) < 2 ^ 62; omega), fun p3 hp3 => ?_⟩
  refine comp_vals m (fun k => V.str ⟨#[letC (cell / ((k : Nat) + 1) + 5 * (k : Nat))]⟩) hp3 (big (by omega)) (fun k H3 hk s3 => ⟨hk, ?_⟩) fun H3 s3 h3 => ⟨Nat.le_refl _, ?_⟩
  · rintro x' H4 ⟨rfl, rfl⟩ R hR
    have e0 : (0 : Int) + (k : Int) = ((k : Nat) : Int) := by omega
    rw [e0]
    refine ⟨_, rfl, _, rfl, _, rfl, _, _, rfl, rfl, _, _, rfl, rfl, ⟨by omega, by omega⟩, _, rfl, _, _, rfl, rfl, .inl ⟨by decide, by decide⟩, _, _, rfl, rfl, _, _, rfl, rfl, (by show (0 : Int) < 26; decide), letters, _, _, rfl, rfl, (by decide), (let_at _).1, hR _ (Same.refl _)⟩
  have e3 : (List.range m).map (fun k : Nat => V.str ⟨#[letC (cell / ((k : Nat) + 1) + 5 * (k : Nat))]⟩) = ((((List.range m).map fun k : Nat => letC (cell / ((k : Nat) + 1) + 5 * (k : Nat))).map fun c => (⟨#[c]⟩ : Str))).map V.str := by
    rw [List.map_map, List.map_map]
    rfl
  rw [e3] at h3
  have hcs : ∀ c ∈ ((List.range m).map fun k : Nat => letC (cell / ((k : Nat) + 1) + 5 * (k : Nat))), c ∈ letters.cps.toList := fun c hc => by
    obtain ⟨k, _, rfl⟩ := List.mem_map.mp hc
    exact (let_at _).2
  have hcl : ((List.range m).map fun k : Nat => letC (cell / ((k : Nat) + 1) + 5 * (k : Nat))).length = m := by rw [List.length_map, List.length_range]
  generalize ((List.range m).map fun k : Nat => letC (cell / ((k : Nat) + 1) + 5 * (k : Nat))) = cs at h3 hcs hcl e3
  refine ⟨_, p3, _, rfl, rfl, SqL.of h3, ?_, ?_⟩
  · rw [sum_ones, List.length_map]
    show cs.length + cs.length * 0 ≤ _
    omega
  have hW := join_letters cs
  have hWl : (Txt.join (Str.ofString "") (cs.map fun c => (⟨#[c]⟩ : Str))).length = m := by
    have := congrArg List.length hW
    rw [Array.length_toList] at this
    rw [← hcl, ← this]
    rfl
  generalize Txt.join (Str.ofString "") (cs.map fun c => (⟨#[c]⟩ : Str)) = W at hW hWl ⊢
  have T3 := T2.mono s3
  have i0 := T.i0
  refine ⟨_, rfl, _, rfl, _, rfl, a, p, ns, i + 1 + 1, m, rfl, T3, (by omega), (by omega), fun at_ H4 a0 a1 x4 h4 => ?_⟩
  have T4 := T3.next x4 h4 (by omega)
  obtain ⟨n, rfl⟩ : ∃ n : Nat, at_ = (n : Int) := ⟨at_.toNat, by omega⟩
  have hat : n < cs.length := by omega
  have hc : atI W.cps.toList (n : Int) = some cs[n] := by
    rw [hW]
    exact atI_nat (List.getElem?_eq_getElem hat)
  obtain ⟨ix, rest, hoc⟩ := let_occ (hcs _ (List.getElem_mem hat))
  refine ⟨_, rfl, _, rfl, rfl, _, rfl, _, rfl, W, _, _, rfl, rfl, big (by omega), hc, letters, _, ix, rest, rfl, rfl, hoc, _, _, rfl, rfl, _, rfl, _, rfl, a, p, ns, i + 1 + 1 + 1, 25, rfl, T4, (by omega), (by decide), fun r H5 r0 r1 x5 h5 => ?_⟩
  refine ⟨_, _, rfl, rfl, _, _, rfl, rfl, (by show (0 : Int) < 26; decide), letters, _, _, rfl, rfl, (by decide), (let_at _).1, ?_⟩
  have one : ∀ c : Nat, (⟨#[c]⟩ : Str).length = 1 := fun c => rfl
  generalize letC _ = oc
  refine ⟨_, rfl, _, rfl, _, rfl, _, rfl, W, rfl, big (by omega), (by simp), fun y1 hy1 => ?_⟩
  refine ⟨_, rfl, _, _, rfl, rfl, big (by rw [one]; omega), _, rfl, _, rfl, _, _, rfl, rfl, _, rfl, W, rfl, big (by omega), (by simp), fun y2 hy2 => ?_⟩
  refine ⟨_, _, rfl, rfl, big (by rw [lapp, one]; omega), _, rfl, _, rfl, _, _, rfl, rfl, big (by rw [one]; omega), _, rfl, _, rfl, big (by rw [lapp, one]; omega), (by simp), fun y3 hy3 => ?_⟩
  rw [lapp, one] at hy3
  refine ⟨(by show 3 ≤ sizeLine; decide), fun p6 hp6 => ?_⟩
  have s6 := same_new hp6 (.lst [V.str W, V.str (y1 ++ ⟨#[oc]⟩ ++ y2), V.str y3])
  have h6 : (upd H5 p6 (.lst [V.str W, V.str (y1 ++ ⟨#[oc]⟩ ++ y2), V.str y3])) p6 = some (.lst [V.str W, V.str (y1 ++ ⟨#[oc]⟩ ++ y2), V.str y3]) := upd_same
  generalize upd H5 p6 (.lst [V.str W, V.str (y1 ++ ⟨#[oc]⟩ ++ y2), V.str y3]) = H6 at s6 h6 ⊢
  have hl3 : ∀ z ∈ [W, y1 ++ ⟨#[oc]⟩ ++ y2, y3], z.length ≤ 100 := fun z hz => by
    simp only [List.mem_cons, List.not_mem_nil, or_false] at hz
    rcases hz with rfl | rfl | rfl
    · omega
    · rw [lapp, lapp, one]; omega
    · omega
  refine ⟨_, rfl, p6, rfl, ⟨_, SqL.of h6⟩, fun p7 hp7 => ?_⟩
  refine comp_prop 3 (fun _ v => ∃ y : Str, v = .str y ∧ y.length ≤ 101) hp7 (by decide) (fun k H7 hk s7 => ?_) fun vs H7 s7 hl hB h7 => ⟨⟨_, SqL.of (s7 _ _ h6), Nat.le_refl _⟩, ?_⟩
  · obtain ⟨z, hz, hzm⟩ : ∃ z : Str, [V.str W, V.str (y1 ++ ⟨#[oc]⟩ ++ y2), V.str y3][k]? = some (.str z) ∧ z ∈ [W, y1 ++ ⟨#[oc]⟩ ++ y2, y3] := by
      match k, hk with
      | 0, _ => exact ⟨_, rfl, by simp⟩
      | 1, _ => exact ⟨_, rfl, by simp⟩
      | 2, _ => exact ⟨_, rfl, by simp⟩
    refine ⟨⟨_, _, SqL.of (s7 _ _ h6), hz⟩, ?_⟩
    rintro x' H8 ⟨rfl, hy⟩ R hR
    have hx := hy _ (SqL.of (s7 _ _ h6))
    rw [hz] at hx
    cases hx
    exact ⟨_, rfl, z, rfl, hl3 z hzm, fun y H9 hy9 s9 => hR _ H9 s9 ⟨y, rfl, hy9⟩⟩
  · match vs, hl with
    | [v1, v2, v3], _ =>
      obtain ⟨q1, rfl, l1⟩ := hB 0 v1 rfl
      obtain ⟨q2, rfl, l2⟩ := hB 1 v2 rfl
      obtain ⟨q3, rfl, l3⟩ := hB 2 v3 rfl
      have s57 := s6.trans s7
      refine q p7 q1 q2 q3 H7 l1 l2 l3 h7 (((x1.trans x2).trans (s3.x.trans x4)).trans (x5.trans s57.x)) ?_
      rw [show i + 4 = i + 1 + 1 + 1 + 1 by omega]
      exact s57 _ _ h5
end K30
end
section
set_option maxHeartbeats 1000000
namespace K30
open PySem L2 L3 KM PyProof.Rows
seal L2.PE L2.PS L2.PSs L2.PT L2.PW L2.PA L2.PG L2.PGs L2.PI L2.PC L2.PO L2.PPs L2.PK L3.PIf
variable {P : Program} {w : World} {K : PySem.W.Frag} {mg : Str → Option Value} {base : Heap} {t : Adr}
def PlD (H : Hp) (c : Addr) : Prop := ∃ x y z : Str, x.length ≤ 101 ∧ y.length ≤ 101 ∧ z.length ≤ 101 ∧ H c = some (.lst [.str x, .str y, .str z])
structure Sg (K : PySem.W.Frag) (a p c : Addr) (ns : List Int) (H : Hp) (i : Int) : Prop where
  T : Tp K a p ns H i
  pl : PlD H c
theorem Sg.next {a p c : Addr} {ns : List Int} {H H' : Hp} {i j : Int} (g : Sg K a p c ns H i) (s : SameX p H H') (h : H' p = some (.lst [.int j])) (hj : 0 ≤ j) : Sg K a p c ns H' j := by
  refine ⟨g.T.next s h hj, ?_⟩
  obtain ⟨x, y, z, l1, l2, l3, hc⟩ := g.pl
  refine ⟨x, y, z, l1, l2, l3, s _ _ (fun e => ?_) hc⟩
  subst e
  rw [g.T.tape] at hc
  cases hc
theorem Sg.mono {a p c : Addr} {ns : List Int} {H H' : Hp} {i : Int} (g : Sg K a p c ns H i) (s : Same H H') : Sg K a p c ns H' i := g.next s.x (s _ _ g.T.tape) g.T.i0
theorem Sg.rep {a p c : Addr} {ns : List Int} {H H' : Hp} {i : Int} {d : D} {v : V} (g : Sg K a p c ns H i) (s : SameX p H H') (r : Rep H d v) : Rep H' d v := g.T.rep s r
def cst (n : Nat) : Int := 10 ^ (n + 1)
theorem cst_succ (n : Nat) : cst (n + 1) = 10 * cst n := by unfold cst; rw [Int.pow_succ]; omega
theorem cst_ge : ∀ n : Nat, 10 ≤ cst n
  | 0 => by decide
  | n + 1 => by have := cst_ge n; rw [cst_succ]; omega
def p5 (n : Nat) : Nat := 5 ^ n
theorem p5_succ (n : Nat) : p5 (n + 1) = 5 * p5 n := by unfold p5; rw [Nat.pow_succ]; omega
theorem p5_ge : ∀ n : Nat, 1 ≤ p5 n
  | 0 => by decide
  | n + 1 => by have := p5_ge n; rw [p5_succ]; omega
structure Ou (K : PySem.W.Frag) (a p c : Addr) (ns : List Int) (H : Hp) (i : Int) (k : Bool) (dp kn : Nat) (co : Int) (d : D) (v : V) (H' : Hp) (i' : Int) : Prop where
  r : Rep H' d v
  wf : wfG isStrD k d = true
  dp : depth d ≤ dp
  kn : knots d ≤ kn
  sx : SameX p H H'
  g : Sg K a p c ns H' i'
  lo : i ≤ i'
  hi : i' ≤ i + co
theorem Ou.weak {a p c : Addr} {ns : List Int} {H H' : Hp} {i i' : Int} {k : Bool} {dp kn dp' kn' : Nat} {co co' : Int} {d : D} {v : V} (o : Ou K a p c ns H i k dp kn co d v H' i') (h1 : dp ≤ dp') (h2 : kn ≤ kn') (h3 : co ≤ co') : Ou K a p c ns H i k dp' kn' co' d v H' i' :=
  ⟨o.r, o.wf, Nat.le_trans o.dp h1, Nat.le_trans o.kn h2, o.sx, o.g, o.lo, by have := o.hi; omega⟩
theorem Ou.after {a p c : Addr} {ns : List Int} {H H1 H' : Hp} {i j i' : Int} {k : Bool} {dp kn : Nat} {co co1 : Int} {d : D} {v : V} (o : Ou K a p c ns H1 j k dp kn co d v H' i') (s : SameX p H H1) (h1 : i ≤ j) (h2 : j ≤ i + co1) : Ou K a p c ns H i k dp kn (co1 + co) d v H' i' :=
  ⟨o.r, o.wf, o.dp, o.kn, s.trans o.sx, o.g, by have := o.lo; omega, by have := o.hi; omega⟩
theorem Ou.later {a p c : Addr} {ns : List Int} {H H' H2 : Hp} {i i' : Int} {k : Bool} {dp kn : Nat} {co : Int} {d : D} {v : V} (o : Ou K a p c ns H i k dp kn co d v H' i') (s : SameX p H' H2) : Rep H2 d v := o.g.rep s o.r
theorem made {a p c q : Addr} {ns : List Int} {H H2 : Hp} {i i2 : Int} {k : Bool} {dp kn : Nat} {co : Int} {ds : List D} {vs : List V} (s : SameX p H H2) (g : Sg K a p c ns H2 i2) (hq : H2 q = none) (r : Reps H2 ds vs) (wf : wfG isStrD k (.tup ds) = true) (h1 : depth (.tup ds) ≤ dp) (h2 : knots (.tup ds) ≤ kn) (lo : i ≤ i2) (hi : i2 ≤ i + co) :
    Ou K a p c ns H i k dp kn co (.tup ds) (.ref q) (upd H2 q (.tup vs)) i2 :=
  ⟨rep_new hq r, wf, h1, h2, s.trans (same_new hq _).x, g.mono (same_new hq _), lo, hi⟩
def spGen (K : PySem.W.Frag) (k : Bool) (n : Nat) : Sp := fun vs H Q _ => ∃ (a p c : Addr) (ns : List Int) (i deep near : Int), vs = [.ref a, .ref p, .int deep, .int near, .ref c] ∧ Sg K a p c ns H i ∧ i + cst n < 2 ^ 58 ∧ -1 ≤ deep ∧ deep + 1 < n ∧ n ≤ 10 ∧ 0 ≤ near ∧ near + n ≤ 99 ∧
  ∀ (d : D) (v : V) (H' : Hp) (i' : Int), Ou K a p c ns H i k (2 * n + 2) (3 * p5 n) (cst n) d v H' i' → Q v H'
def spHel (K : PySem.W.Frag) (n dp kn : Nat) (co : Int) : Sp := fun vs H Q _ => ∃ (a p c : Addr) (ns : List Int) (i deep near : Int), vs = [.ref a, .ref p, .int deep, .int near, .ref c] ∧ Sg K a p c ns H i ∧ i + 4 * cst n < 2 ^ 58 ∧ 1 ≤ deep ∧ deep < n ∧ n ≤ 9 ∧ 0 ≤ near ∧ near + n + 1 ≤ 99 ∧
  ∀ (d : D) (v : V) (H' : Hp) (i' : Int), Ou K a p c ns H i false dp kn co d v H' i' → Q v H'
def spLeaf (K : PySem.W.Frag) : Sp := fun vs H Q _ => ∃ (a p c : Addr) (ns : List Int) (i near : Int), vs = [.ref a, .ref p, .int near, .ref c] ∧ Sg K a p c ns H i ∧ i < 2 ^ 59 ∧ 0 ≤ near ∧ near ≤ 99 ∧
  ∀ (d : D) (v : V) (H' : Hp) (i' : Int), Ou K a p c ns H i false 2 2 2 d v H' i' → Q v H'
theorem sc_law_leaf : FnScope ["_law_script", "_law_tape", "_law_near", "_law_pool_here", "_law_way"] ["_law_script", "_law_tape", "_law_near", "_law_pool_here"] (defScope s_law_leaf) := ⟨rfl, rfl, rfl, by decide +kernel, rfl, by decide +kernel, by decide +kernel⟩
theorem c_law_leaf (D : Df K mg "_law_leaf" s_law_leaf ["_law_script", "_law_tape", "_law_near", "_law_pool_here"]) (M : Mg mg t) (F_law_draw : Cal P w K mg CX0 "_law_draw" (1) ["_law_script", "_law_tape", "_law_many"] (spDraw K)) : Cal P w K mg CX0 "_law_leaf" (131) ["_law_script", "_law_tape", "_law_near", "_law_pool_here"] (spLeaf K) := by
  refine D.ok sc_law_leaf (fun vs H Q E h => ?_) (fun base f cdv A outer s H vs Q E hr h => ?_)
  · obtain ⟨a, p, c, ns, i, near, rfl, _⟩ := h
    rfl
  obtain ⟨a, p, c, ns, i, near, rfl, g, hi, n0, n1, q⟩ := h
  have hh := hr.hd (by decide)
  have i0 := g.T.i0
  refine ⟨_, (pss_cons (ps_set (i := 4) sc_law_leaf.nd rfl (by first | exact Or.inl rfl | exact Or.inr rfl) (pe_fn F_law_draw (hr.mono (by omega)) rfl pass0 (pa_cons (pv 0) (pa_cons (pv 1) (pa_cons pe_int pa_nil)))))
      (pss_cons (ps_if (pt_cmpR op_eq (pv 4) pe_int (nomark _)) (pss_one (ps_ret (pe_tup (pa_cons pe_str pa_nil)))) pss_nil)
      (pss_cons (ps_if (pt_cmpR op_eq (pv 4) pe_int (nomark _)) (pss_one (ps_ret (pe_tup (pa_cons pe_str (pa_cons (pe_ix ix_list (pv 3) (pe_fn F_law_draw (hr.mono (by omega)) rfl pass0 (pa_cons (pv 0) (pa_cons (pv 1) (pa_cons pe_int pa_nil)))) (fun _ _ => rfl)) pa_nil))))) pss_nil)
      (pss_cons (ps_if (pt_cmpR op_eq (pv 2) pe_int (nomark _)) (pss_one (ps_ret (pe_tup (pa_cons pe_str (pa_cons (pe_tup (pa_cons pe_str pa_nil)) pa_nil))))) pss_nil)
      (pss_cons (ps_if (pt_cmpR op_eq (pv 4) pe_int (nomark _)) (pss_one (ps_ret (pe_tup (pa_cons pe_str (pa_cons (pe_fn F_law_draw (hr.mono (by omega)) rfl pass0 (pa_cons (pv 0) (pa_cons (pv 1) (pa_cons (pv 2) pa_nil)))) pa_nil))))) pss_nil)
      (pss_one (ps_ret (pe_tup (pa_cons pe_str (pa_cons (pe_fn F_law_draw (hr.mono (by omega)) rfl pass0 (pa_cons (pv 0) (pa_cons (pv 1) (pa_cons (pe_callB (call_min2 hh) rfl M.n_min bt_min (pa_cons (pv 2) (pa_cons pe_int pa_nil))) pa_nil)))) pa_nil)))))))))), ?_⟩
  try dsimp only [cxK, cxK2]
  refine let6 ?_
  intro _ _ _ _ _ _
  refine ⟨_, rfl, _, rfl, a, p, ns, i, 6, rfl, g.T, (by omega), (by decide), fun way H1 w0 w1 x1 h1 => ?_⟩
  have g1 := g.next x1 h1 (by omega)
  have zero : ∀ {q : Addr}, H1 q = none → Ou K a p c ns H i false 2 2 2 (.tup [.str "zero"]) (.ref q) (upd H1 q (.tup [V.str "zero"])) (i + 1) := fun hq => made x1 g1 hq (rs rw_ r0) wf_zero (by simp [depth, depthL]) (by simp [knots, knotsL]) (by omega) (by omega)
  refine ⟨_, rfl, rfl, _, rfl, ite2 (fun _ => ⟨(by show 1 ≤ sizeLine; decide), fun q1 hq1 => q _ _ _ _ (zero hq1)⟩) (fun _ => ?_)⟩
  refine ⟨_, rfl, rfl, _, rfl, ite2 (fun _ => ?_) (fun _ => ?_)⟩
  · obtain ⟨x, y, z, l1, l2, l3, hc⟩ := g1.pl
    refine ⟨_, rfl, _, rfl, _, rfl, a, p, ns, i + 1, 3, rfl, g1.T, (by omega), (by decide), fun at_ H2 a0 a1 x2 h2 => ?_⟩
    have g2 := g1.next x2 h2 (by omega)
    have hc2 : H2 c = some (.lst [.str x, .str y, .str z]) := x2 _ _ (fun e => by subst e; rw [g1.T.tape] at hc; cases hc) hc
    obtain ⟨o, ho, hol⟩ : ∃ o : Str, atI [V.str x, .str y, .str z] at_ = some (.str o) ∧ o.length ≤ 101 := by
      have : at_ = 0 ∨ at_ = 1 ∨ at_ = 2 := by omega
      rcases this with rfl | rfl | rfl
      · exact ⟨x, rfl, l1⟩
      · exact ⟨y, rfl, l2⟩
      · exact ⟨z, rfl, l3⟩
    refine ⟨c, _, _, _, rfl, rfl, SqL.of hc2, ho, (by show 2 ≤ sizeLine; decide), fun q1 hq1 => q _ _ _ _ (made (x1.trans x2) g2 hq1 (rs rw_ (rs (rw_ (by omega)) r0)) (wf_name rfl) (by simp [depth, depthL]) (by simp [knots, knotsL]) (by omega) (by omega))⟩
  refine ⟨_, rfl, rfl, _, rfl, ite2 (fun _ => ?_) (fun cn => ?_)⟩
  · refine ⟨(by show 1 ≤ sizeLine; decide), fun q1 hq1 => ⟨(by show 2 ≤ sizeLine; decide), fun q2 hq2 => ?_⟩⟩
    have s1 := same_new hq1 (.tup [V.str "zero"])
    exact q _ _ _ _ (made (x1.trans s1.x) (g1.mono s1) hq2 (rs rw_ (rs (rep_new hq1 (rs rw_ r0)) r0)) (wf_next wf_zero) (by simp [depth, depthL]) (by simp [knots, knotsL]) (by omega) (by omega))
  have hn : 0 < near := by
    have : near ≠ 0 := fun z => cn (by rw [z]; exact decide_eq_true rfl)
    omega
  have var : ∀ {z : Int} {H2 : Hp} {q : Addr}, 0 ≤ z → z < near → SameX p H1 H2 → H2 p = some (.lst [.int (i + 1 + 1)]) → H2 q = none → Ou K a p c ns H i false 2 2 2 (.tup [.str "var", .int z]) (.ref q) (upd H2 q (.tup [V.str "var", .int z])) (i + 1 + 1) := fun z0 z1 x2 h2 hq =>
    made (x1.trans x2) (g1.next x2 h2 (by omega)) hq (rs rw_ (rs ri r0)) (wf_var z0 (by omega)) (by simp [depth, depthL]) (by simp [knots, knotsL]) (by omega) (by omega)
  refine ⟨_, rfl, rfl, _, rfl, ite2 (fun _ => ?_) (fun _ => ?_)⟩
  · refine ⟨_, rfl, _, rfl, _, rfl, a, p, ns, i + 1, near, rfl, g1.T, (by omega), hn, fun z H2 z0 z1 x2 h2 => ⟨(by show 2 ≤ sizeLine; decide), fun q1 hq1 => q _ _ _ _ (var z0 z1 x2 h2 hq1)⟩⟩
  · refine ⟨_, rfl, _, rfl, _, rfl, near, 3, rfl, a, p, ns, i + 1, _, rfl, g1.T, (by omega), (by split <;> omega), fun z H2 z0 z1 x2 h2 => ⟨(by show 2 ≤ sizeLine; decide), fun q1 hq1 => q _ _ _ _ (var z0 ?_ x2 h2 hq1)⟩⟩
    split at z1 <;> omega
end K30
end
section
set_option maxHeartbeats 2000000
namespace K30
open PySem L2 L3 KM PyProof.Rows
seal L2.PE L2.PS L2.PSs L2.PT L2.PW L2.PA L2.PG L2.PGs L2.PI L2.PC L2.PO L2.PPs L2.PK L3.PIf
variable {P : Program} {w : World} {K : PySem.W.Frag} {mg : Str → Option Value} {base : Heap} {t : Adr}
theorem wf_none {nm : D → Bool} : wfG nm true (.tup [.str "none"]) = true := by
  refine wfG_mk (w := "none") (s := "") (by decide +kernel) (by decide +kernel) ?_
  rw [show (Str.ofString "").cps.toList = [] by decide +kernel]
  simp [wfL]
theorem wf_like {nm : D → Bool} {d0 d1 : D} (h0 : wfG nm true d0 = true) (h1 : wfG nm false d1 = true) : wfG nm false (.tup [.str "like", d0, d1]) = true := by
  refine wfG_mk (w := "like") (s := "kt") (by decide +kernel) (by decide +kernel) ?_
  rw [show (Str.ofString "kt").cps.toList = [107, 116] by decide +kernel, wfL_cons, wfL_cons]
  simp [dueB, wfL, h0, h1]
theorem wf_pair {nm : D → Bool} {d0 d1 d2 : D} (h0 : wfG nm true d0 = true) (h1 : wfG nm false d1 = true) (h2 : wfG nm false d2 = true) : wfG nm false (.tup [.str "pair", d0, d1, d2]) = true := by
  refine wfG_mk (w := "pair") (s := "ktt") (by decide +kernel) (by decide +kernel) ?_
  rw [show (Str.ofString "ktt").cps.toList = [107, 116, 116] by decide +kernel, wfL_cons, wfL_cons, wfL_cons]
  simp [dueB, wfL, h0, h1, h2]
theorem wf_second {nm : D → Bool} {d0 : D} (h0 : wfG nm false d0 = true) : wfG nm false (.tup [.str "second", d0]) = true := by
  refine wfG_mk (w := "second") (s := "t") (by decide +kernel) (by decide +kernel) ?_
  rw [show (Str.ofString "t").cps.toList = [116] by decide +kernel, wfL_cons]
  simp [dueB, wfL, h0]
theorem sc_law_kind : FnScope ["_law_script", "_law_tape", "_law_deep", "_law_near", "_law_pool_here", "_law_way", "_law_first", "_law_kind_here"] ["_law_script", "_law_tape", "_law_deep", "_law_near", "_law_pool_here"] (defScope s_law_kind) := ⟨rfl, rfl, rfl, by decide +kernel, rfl, by decide +kernel, by decide +kernel⟩
theorem st_law_kind {n : Nat} (D : Df K mg "_law_kind" s_law_kind ["_law_script", "_law_tape", "_law_deep", "_law_near", "_law_pool_here"]) (M : Mg mg t) (F_law_draw : Cal P w K mg CX0 "_law_draw" (1) ["_law_script", "_law_tape", "_law_many"] (spDraw K)) (F_law_kind : Cal P w K mg CX0 "_law_kind" (3 * n + 132) ["_law_script", "_law_tape", "_law_deep", "_law_near", "_law_pool_here"] (spGen K true n)) (F_law_term : Cal P w K mg CX0 "_law_term" (3 * n + 132) ["_law_script", "_law_tape", "_law_deep", "_law_near", "_law_pool_here"] (spGen K false n)) : Cal P w K mg CX0 "_law_kind" (3 * n + 135) ["_law_script", "_law_tape", "_law_deep", "_law_near", "_law_pool_here"] (spGen K true (n + 1)) := by
  refine D.ok sc_law_kind (fun vs H Q E h => ?_) (fun base f cdv A outer s H vs Q E hr h => ?_)
  · obtain ⟨a, p, c, ns, i, deep, near, rfl, _⟩ := h
    rfl
  obtain ⟨a, p, c, ns, i, deep, near, rfl, g, hi, d0, d1, hn, n0, n1, q⟩ := h
  have i0 := g.T.i0
  have e := cst_succ n
  have c10 := cst_ge n
  have e5 := p5_succ n
  have p1 := p5_ge n
  rw [e] at hi q
  rw [e5] at q
  refine ⟨_, (pss_cons (ps_set (i := 5) sc_law_kind.nd rfl (by first | exact Or.inl rfl | exact Or.inr rfl) (pe_fn F_law_draw (hr.mono (by omega)) rfl pass0 (pa_cons (pv 0) (pa_cons (pv 1) (pa_cons pe_int pa_nil)))))
      (pss_cons (ps_if (L2.PW.pt (pw_or (pt_cmpR op_lt (pv 2) pe_int (nomark _)) (pw_or1 (pt_cmpR op_lt (pv 5) pe_int (nomark _))))) (pss_one (ps_ret (pe_ix ix_list (pe_lst (pa_cons (pe_tup (pa_cons pe_str pa_nil)) (pa_cons (pe_tup (pa_cons pe_str pa_nil)) (pa_cons (pe_tup (pa_cons pe_str pa_nil)) pa_nil)))) (pe_op op_mod (pv 5) pe_int) (fun _ _ => rfl)))) pss_nil)
      (pss_cons (ps_if (pt_cmpR op_lt (pv 5) pe_int (nomark _)) (pss_cons (ps_set (i := 6) sc_law_kind.nd rfl (by first | exact Or.inl rfl | exact Or.inr rfl) (pe_fn F_law_kind (hr.mono (by omega)) rfl pass0 (pa_cons (pv 0) (pa_cons (pv 1) (pa_cons (pe_op op_sub (pv 2) pe_int) (pa_cons (pv 3) (pa_cons (pv 4) pa_nil)))))))
      (pss_one (ps_ret (pe_tup (pa_cons (pe_ix ix_list (pe_lst (pa_cons pe_str (pa_cons pe_str pa_nil))) (pe_op op_sub (pv 5) pe_int) (fun _ _ => rfl)) (pa_cons (pv 6) (pa_cons (pe_fn F_law_kind (hr.mono (by omega)) rfl pass0 (pa_cons (pv 0) (pa_cons (pv 1) (pa_cons (pe_op op_sub (pv 2) pe_int) (pa_cons (pe_op op_add (pv 3) pe_int) (pa_cons (pv 4) pa_nil)))))) pa_nil))))))) pss_nil)
      (pss_cons (ps_set (i := 6) sc_law_kind.nd rfl (by first | exact Or.inl rfl | exact Or.inr rfl) (pe_fn F_law_term (hr.mono (by omega)) rfl pass0 (pa_cons (pv 0) (pa_cons (pv 1) (pa_cons (pe_op op_sub (pv 2) pe_int) (pa_cons (pv 3) (pa_cons (pv 4) pa_nil)))))))
      (pss_cons (ps_set (i := 7) sc_law_kind.nd rfl (by first | exact Or.inl rfl | exact Or.inr rfl) (pe_fn F_law_kind (hr.mono (by omega)) rfl pass0 (pa_cons (pv 0) (pa_cons (pv 1) (pa_cons (pe_op op_sub (pv 2) pe_int) (pa_cons (pv 3) (pa_cons (pv 4) pa_nil)))))))
      (pss_one (ps_ret (pe_tup (pa_cons pe_str (pa_cons (pv 7) (pa_cons (pv 6) (pa_cons (pe_fn F_law_term (hr.mono (by omega)) rfl pass0 (pa_cons (pv 0) (pa_cons (pv 1) (pa_cons (pe_op op_sub (pv 2) pe_int) (pa_cons (pv 3) (pa_cons (pv 4) pa_nil)))))) pa_nil)))))))))))), ?_⟩
  try dsimp only [cxK, cxK2]
  refine let6 ?_
  intro _ _ _ _ _ _
  refine ⟨_, rfl, _, rfl, a, p, ns, i, 7, rfl, g.T, (by omega), (by decide), fun way H1 w0 w1 x1 h1 => ?_⟩
  have g1 := g.next x1 h1 (by omega)
  have leafs : ∀ H2 : Hp, SameX p H H2 → Sg K a p c ns H2 (i + 1) → ∀ (x : Str) (r : Addr), (x = "nat" ∨ x = "none") → Rep H2 (.tup [.str x]) (.ref r) → Q (.ref r) H2 := fun H2 sx g2 x r hx hr2 => by
    refine q (.tup [.str x]) _ H2 (i + 1) ⟨hr2, ?_, by simp only [depth, depthL]; omega, by simp only [knots, knotsL]; omega, sx, g2, by omega, by omega⟩
    rcases hx with rfl | rfl
    · exact wf_nat
    · exact wf_none
  refine ⟨_, rfl, _, _, rfl, rfl, _, rfl, ?_⟩
  have some3 : ∀ (R : VK), (∀ (H2 : Hp) (x : Str) (r : Addr), SameX p H H2 → Sg K a p c ns H2 (i + 1) → (x = "nat" ∨ x = "none") → Rep H2 (.tup [.str x]) (.ref r) → R (.ref r) H2) → ∀ (q1 q2 q3 q4 : Addr), H1 q1 = none → (upd H1 q1 (.tup [V.str "nat"])) q2 = none → (upd (upd H1 q1 (.tup [V.str "nat"])) q2 (.tup [V.str "nat"])) q3 = none → (upd (upd (upd H1 q1 (.tup [V.str "nat"])) q2 (.tup [V.str "nat"])) q3 (.tup [V.str "none"])) q4 = none →
      ∃ v, atI [V.ref q1, .ref q2, .ref q3] (way % 3) = some v ∧ (upd (upd (upd (upd H1 q1 (.tup [V.str "nat"])) q2 (.tup [V.str "nat"])) q3 (.tup [V.str "none"])) q4 (.lst [V.ref q1, .ref q2, .ref q3])) q4 = some (.lst [V.ref q1, .ref q2, .ref q3]) ∧ R v (upd (upd (upd (upd H1 q1 (.tup [V.str "nat"])) q2 (.tup [V.str "nat"])) q3 (.tup [V.str "none"])) q4 (.lst [V.ref q1, .ref q2, .ref q3])) := fun R hR q1 q2 q3 q4 e1 e2 e3 e4 => by
    have t1 := same_new e1 (.tup [V.str "nat"])
    have t2 := same_new e2 (.tup [V.str "nat"])
    have t3 := same_new e3 (.tup [V.str "none"])
    have t4 := same_new e4 (.lst [V.ref q1, .ref q2, .ref q3])
    have ra := (rep_new e1 (rs (rw_ (x := "nat")) r0)).mono (t2.trans (t3.trans t4))
    have rb := (rep_new e2 (rs (rw_ (x := "nat")) r0)).mono (t3.trans t4)
    have rc := (rep_new e3 (rs (rw_ (x := "none")) r0)).mono t4
    have tt := t1.trans (t2.trans (t3.trans t4))
    have h : way % 3 = 0 ∨ way % 3 = 1 ∨ way % 3 = 2 := by omega
    rcases h with h | h | h
    · exact ⟨_, by rw [h]; rfl, upd_same, hR _ "nat" q1 (x1.trans tt.x) (g1.mono tt) (.inl rfl) ra⟩
    · exact ⟨_, by rw [h]; rfl, upd_same, hR _ "nat" q2 (x1.trans tt.x) (g1.mono tt) (.inl rfl) rb⟩
    · exact ⟨_, by rw [h]; rfl, upd_same, hR _ "none" q3 (x1.trans tt.x) (g1.mono tt) (.inr rfl) rc⟩
  have one : 1 ≤ sizeLine := by decide
  refine ite2 (fun cd => ?_) (fun cd => ?_)
  · refine iteT ⟨one, fun q1 e1 => ⟨one, fun q2 e2 => ⟨one, fun q3 e3 => ⟨(by show 3 ≤ sizeLine; decide), fun q4 e4 => ?_⟩⟩⟩⟩
    obtain ⟨v, hv, h4, hq⟩ := some3 Q (fun H2 x r sx g2 hx hr2 => leafs H2 sx g2 x r hx hr2) q1 q2 q3 q4 e1 e2 e3 e4
    exact ⟨_, rfl, _, _, rfl, rfl, (by show (0 : Int) < 3; decide), q4, _, _, v, rfl, rfl, SqL.of h4, hv, hq⟩
  refine ⟨_, rfl, _, _, rfl, rfl, _, rfl, ?_⟩
  refine ite2 (fun cw => ?_) (fun cw => ?_)
  · refine ⟨one, fun q1 e1 => ⟨one, fun q2 e2 => ⟨one, fun q3 e3 => ⟨(by show 3 ≤ sizeLine; decide), fun q4 e4 => ?_⟩⟩⟩⟩
    obtain ⟨v, hv, h4, hq⟩ := some3 Q (fun H2 x r sx g2 hx hr2 => leafs H2 sx g2 x r hx hr2) q1 q2 q3 q4 e1 e2 e3 e4
    exact ⟨_, rfl, _, _, rfl, rfl, (by show (0 : Int) < 3; decide), q4, _, _, v, rfl, rfl, SqL.of h4, hv, hq⟩
  have cd : ¬ deep < 1 := of_decide_eq_false (Bool.eq_false_iff.mpr cd)
  have cw : ¬ way < 3 := of_decide_eq_false (Bool.eq_false_iff.mpr cw)
  refine ⟨_, rfl, _, _, rfl, rfl, _, rfl, ?_⟩
  refine ite2 (fun cw2 => ?_) (fun cw2 => ?_)
  · have cw2 : way < 5 := of_decide_eq_true cw2
    refine ⟨_, rfl, _, rfl, _, rfl, _, _, rfl, rfl, _, rfl, _, rfl, a, p, c, ns, i + 1, deep - 1, near, rfl, g1, (by omega), (by omega), (by omega), (by omega), n0, (by omega), fun dA vA H2 i2 oA => ?_⟩
    refine ⟨(by show 2 ≤ sizeLine; decide), fun q1 e1 => ?_⟩
    have t1 := same_new e1 (.lst [V.str "all", .str "some"])
    obtain ⟨y, hy, hyy⟩ : ∃ y : Str, atI [V.str "all", .str "some"] (way - 3) = some (.str y) ∧ (y = "all" ∨ y = "some") := by
      have : way = 3 ∨ way = 4 := by omega
      rcases this with rfl | rfl
      · exact ⟨_, rfl, .inl rfl⟩
      · exact ⟨_, rfl, .inr rfl⟩
    have hA := oA.hi
    have lA := oA.lo
    refine ⟨_, rfl, _, _, rfl, rfl, q1, _, _, _, rfl, rfl, SqL.of upd_same, hy, _, rfl, ?_⟩
    refine ⟨_, rfl, _, rfl, _, rfl, _, _, rfl, rfl, _, rfl, _, _, rfl, rfl, _, rfl, a, p, c, ns, i2, deep - 1, near + 1, rfl, oA.g.mono t1, (by omega), (by omega), (by omega), (by omega), (by omega), (by omega), fun dB vB H3 i3 oB => ⟨(by show 3 ≤ sizeLine; decide), fun q2 e2 => ?_⟩⟩
    have hB := oB.hi
    have lB := oB.lo
    have sAB := t1.x.trans oB.sx
    have a1 := oA.dp
    have a2 := oB.dp
    have a3 := oA.kn
    have a4 := oB.kn
    have hw : wfG isStrD true (.tup [.str y, dA, dB]) = true := by
      rcases hyy with rfl | rfl
      · exact wf_all oA.wf oB.wf
      · exact wf_some oA.wf oB.wf
    have hyl : y.length ≤ 1000 := by rcases hyy with rfl | rfl <;> decide
    exact q _ _ _ _ (made ((x1.trans oA.sx).trans sAB) oB.g e2 (rs (rw_ hyl) (rs (oA.later sAB) (rs oB.r r0))) hw (by apply KM.d0; with_reducible repeat' first | apply KM.q0i | apply KM.q0s | apply KM.q0 | apply KM.q4 | apply KM.q3 | apply KM.q2 | apply KM.q1 | omega) (by simp only [knots, knotsL]; omega) (by omega) (by omega))
  · refine ⟨_, rfl, _, rfl, _, rfl, _, _, rfl, rfl, _, rfl, _, rfl, a, p, c, ns, i + 1, deep - 1, near, rfl, g1, (by omega), (by omega), (by omega), (by omega), n0, (by omega), fun dA vA H2 i2 oA => ?_⟩
    have hA := oA.hi
    have lA := oA.lo
    refine ⟨_, rfl, _, rfl, _, rfl, _, _, rfl, rfl, _, rfl, _, rfl, a, p, c, ns, i2, deep - 2, near, rfl, oA.g, (by omega), (by omega), (by omega), (by omega), n0, (by omega), fun dB vB H3 i3 oB => ?_⟩
    have hB := oB.hi
    have lB := oB.lo
    refine ⟨_, rfl, _, rfl, _, rfl, _, rfl, _, rfl, _, _, rfl, rfl, _, rfl, _, rfl, a, p, c, ns, i3, deep - 1, near, rfl, oB.g, (by omega), (by omega), (by omega), (by omega), n0, (by omega), fun dC vC H4 i4 oC => ⟨(by show 4 ≤ sizeLine; decide), fun q2 e2 => ?_⟩⟩
    have hC := oC.hi
    have lC := oC.lo
    have a1 := oA.dp
    have a2 := oB.dp
    have a3 := oA.kn
    have a4 := oB.kn
    have a5 := oC.dp
    have a6 := oC.kn
    exact q _ _ _ _ (made ((x1.trans oA.sx).trans (oB.sx.trans oC.sx)) oC.g e2 (rs rw_ (rs (oB.later oC.sx) (rs (oA.later (oB.sx.trans oC.sx)) (rs oC.r r0)))) (wf_same oB.wf oA.wf oC.wf) (by apply KM.d0; with_reducible repeat' first | apply KM.q0i | apply KM.q0s | apply KM.q0 | apply KM.q4 | apply KM.q3 | apply KM.q2 | apply KM.q1 | omega) (by simp only [knots, knotsL]; omega) (by omega) (by omega))
end K30
end
section
set_option maxHeartbeats 2000000
namespace K30
open PySem L2 L3 KM PyProof.Rows
seal L2.PE L2.PS L2.PSs L2.PT L2.PW L2.PA L2.PG L2.PGs L2.PI L2.PC L2.PO L2.PPs L2.PK L3.PIf
variable {P : Program} {w : World} {K : PySem.W.Frag} {mg : Str → Option Value} {base : Heap} {t : Adr}
theorem sc_law_fun : FnScope ["_law_script", "_law_tape", "_law_deep", "_law_near", "_law_pool_here", "_law_kind_here"] ["_law_script", "_law_tape", "_law_deep", "_law_near", "_law_pool_here"] (defScope s_law_fun) := ⟨rfl, rfl, rfl, by decide +kernel, rfl, by decide +kernel, by decide +kernel⟩
theorem c_law_fun {n : Nat} (D : Df K mg "_law_fun" s_law_fun ["_law_script", "_law_tape", "_law_deep", "_law_near", "_law_pool_here"]) (M : Mg mg t) (F_law_kind : Cal P w K mg CX0 "_law_kind" (3 * n + 132) ["_law_script", "_law_tape", "_law_deep", "_law_near", "_law_pool_here"] (spGen K true n)) (F_law_term : Cal P w K mg CX0 "_law_term" (3 * n + 132) ["_law_script", "_law_tape", "_law_deep", "_law_near", "_law_pool_here"] (spGen K false n)) : Cal P w K mg CX0 "_law_fun" (3 * n + 133) ["_law_script", "_law_tape", "_law_deep", "_law_near", "_law_pool_here"] (spHel K n (2 * n + 3) (1 + 6 * p5 n) (2 * cst n)) := by
  refine D.ok sc_law_fun (fun vs H Q E h => ?_) (fun base f cdv A outer s H vs Q E hr h => ?_)
  · obtain ⟨a, p, c, ns, i, deep, near, rfl, _⟩ := h
    rfl
  obtain ⟨a, p, c, ns, i, deep, near, rfl, g, hi, d0, d1, hn, n0, n1, q⟩ := h
  have i0 := g.T.i0
  have c10 := cst_ge n
  have p1 := p5_ge n
  refine ⟨_, (pss_cons (ps_set (i := 5) sc_law_fun.nd rfl (by first | exact Or.inl rfl | exact Or.inr rfl) (pe_fn F_law_kind (hr.mono (by omega)) rfl pass0 (pa_cons (pv 0) (pa_cons (pv 1) (pa_cons (pe_op op_sub (pv 2) pe_int) (pa_cons (pv 3) (pa_cons (pv 4) pa_nil)))))))
      (pss_one (ps_ret (pe_tup (pa_cons pe_str (pa_cons (pv 5) (pa_cons (pe_fn F_law_term (hr.mono (by omega)) rfl pass0 (pa_cons (pv 0) (pa_cons (pv 1) (pa_cons (pe_op op_sub (pv 2) pe_int) (pa_cons (pe_op op_add (pv 3) pe_int) (pa_cons (pv 4) pa_nil)))))) pa_nil))))))), ?_⟩
  try dsimp only [cxK, cxK2]
  refine let2 ?_
  intro _ _
  refine ⟨_, rfl, _, rfl, _, rfl, _, _, rfl, rfl, _, rfl, _, rfl, a, p, c, ns, i, deep - 2, near, rfl, g, (by omega), (by omega), (by omega), (by omega), (by omega), (by omega), fun dA vA H1 i1 oA => ?_⟩
  have hA := oA.hi
  have lA := oA.lo
  have dpA := oA.dp
  have knA := oA.kn
  refine ⟨_, rfl, _, rfl, _, rfl, _, rfl, _, _, rfl, rfl, _, rfl, _, _, rfl, rfl, _, rfl, a, p, c, ns, i1, deep - 1, near + 1, rfl, oA.g, (by omega), (by omega), (by omega), (by omega), (by omega), (by omega), fun dB vB H2 i2 oB => ?_⟩
  have hB := oB.hi
  have lB := oB.lo
  have dpB := oB.dp
  have knB := oB.kn
  refine ⟨(by show 3 ≤ sizeLine; decide), fun q1 e1 => ?_⟩
  exact q _ _ _ _ (made (oA.sx.trans oB.sx) oB.g e1 (rs rw_ (rs (oA.later oB.sx) (rs oB.r r0))) (wf_fun oA.wf oB.wf) (by apply KM.d0; with_reducible repeat' first | apply KM.q0i | apply KM.q0s | apply KM.q0 | apply KM.q4 | apply KM.q3 | apply KM.q2 | apply KM.q1 | omega) (by simp only [knots, knotsL]; omega) (by omega) (by omega))
theorem sc_law_pair : FnScope ["_law_script", "_law_tape", "_law_deep", "_law_near", "_law_pool_here", "_law_kind_here", "_law_first"] ["_law_script", "_law_tape", "_law_deep", "_law_near", "_law_pool_here"] (defScope s_law_pair) := ⟨rfl, rfl, rfl, by decide +kernel, rfl, by decide +kernel, by decide +kernel⟩
theorem c_law_pair {n : Nat} (D : Df K mg "_law_pair" s_law_pair ["_law_script", "_law_tape", "_law_deep", "_law_near", "_law_pool_here"]) (M : Mg mg t) (F_law_kind : Cal P w K mg CX0 "_law_kind" (3 * n + 132) ["_law_script", "_law_tape", "_law_deep", "_law_near", "_law_pool_here"] (spGen K true n)) (F_law_term : Cal P w K mg CX0 "_law_term" (3 * n + 132) ["_law_script", "_law_tape", "_law_deep", "_law_near", "_law_pool_here"] (spGen K false n)) : Cal P w K mg CX0 "_law_pair" (3 * n + 133) ["_law_script", "_law_tape", "_law_deep", "_law_near", "_law_pool_here"] (spHel K n (2 * n + 3) (1 + 9 * p5 n) (3 * cst n)) := by
  refine D.ok sc_law_pair (fun vs H Q E h => ?_) (fun base f cdv A outer s H vs Q E hr h => ?_)
  · obtain ⟨a, p, c, ns, i, deep, near, rfl, _⟩ := h
    rfl
  obtain ⟨a, p, c, ns, i, deep, near, rfl, g, hi, d0, d1, hn, n0, n1, q⟩ := h
  have i0 := g.T.i0
  have c10 := cst_ge n
  have p1 := p5_ge n
  refine ⟨_, (pss_cons (ps_set (i := 5) sc_law_pair.nd rfl (by first | exact Or.inl rfl | exact Or.inr rfl) (pe_fn F_law_kind (hr.mono (by omega)) rfl pass0 (pa_cons (pv 0) (pa_cons (pv 1) (pa_cons (pe_op op_sub (pv 2) pe_int) (pa_cons (pv 3) (pa_cons (pv 4) pa_nil)))))))
      (pss_cons (ps_set (i := 6) sc_law_pair.nd rfl (by first | exact Or.inl rfl | exact Or.inr rfl) (pe_fn F_law_term (hr.mono (by omega)) rfl pass0 (pa_cons (pv 0) (pa_cons (pv 1) (pa_cons (pe_op op_sub (pv 2) pe_int) (pa_cons (pv 3) (pa_cons (pv 4) pa_nil)))))))
      (pss_one (ps_ret (pe_tup (pa_cons pe_str (pa_cons (pv 5) (pa_cons (pv 6) (pa_cons (pe_fn F_law_term (hr.mono (by omega)) rfl pass0 (pa_cons (pv 0) (pa_cons (pv 1) (pa_cons (pe_op op_sub (pv 2) pe_int) (pa_cons (pv 3) (pa_cons (pv 4) pa_nil)))))) pa_nil))))))))), ?_⟩
  try dsimp only [cxK, cxK2]
  refine let3 ?_
  intro _ _ _
  refine ⟨_, rfl, _, rfl, _, rfl, _, _, rfl, rfl, _, rfl, _, rfl, a, p, c, ns, i, deep - 2, near, rfl, g, (by omega), (by omega), (by omega), (by omega), (by omega), (by omega), fun dA vA H1 i1 oA => ?_⟩
  have hA := oA.hi
  have lA := oA.lo
  have dpA := oA.dp
  have knA := oA.kn
  refine ⟨_, rfl, _, rfl, _, rfl, _, _, rfl, rfl, _, rfl, _, rfl, a, p, c, ns, i1, deep - 1, near, rfl, oA.g, (by omega), (by omega), (by omega), (by omega), (by omega), (by omega), fun dB vB H2 i2 oB => ?_⟩
  have hB := oB.hi
  have lB := oB.lo
  have dpB := oB.dp
  have knB := oB.kn
  refine ⟨_, rfl, _, rfl, _, rfl, _, rfl, _, rfl, _, _, rfl, rfl, _, rfl, _, rfl, a, p, c, ns, i2, deep - 1, near, rfl, oB.g, (by omega), (by omega), (by omega), (by omega), (by omega), (by omega), fun dC vC H3 i3 oC => ?_⟩
  have hC := oC.hi
  have lC := oC.lo
  have dpC := oC.dp
  have knC := oC.kn
  refine ⟨(by show 4 ≤ sizeLine; decide), fun q1 e1 => ?_⟩
  exact q _ _ _ _ (made (oA.sx.trans (oB.sx.trans oC.sx)) oC.g e1 (rs rw_ (rs (oA.later (oB.sx.trans oC.sx)) (rs (oB.later oC.sx) (rs oC.r r0)))) (wf_pair oA.wf oB.wf oC.wf) (by apply KM.d0; with_reducible repeat' first | apply KM.q0i | apply KM.q0s | apply KM.q0 | apply KM.q4 | apply KM.q3 | apply KM.q2 | apply KM.q1 | omega) (by simp only [knots, knotsL]; omega) (by omega) (by omega))
theorem sc_law_like : FnScope ["_law_script", "_law_tape", "_law_deep", "_law_near", "_law_pool_here", "_law_kind_here"] ["_law_script", "_law_tape", "_law_deep", "_law_near", "_law_pool_here"] (defScope s_law_like) := ⟨rfl, rfl, rfl, by decide +kernel, rfl, by decide +kernel, by decide +kernel⟩
theorem c_law_like {n : Nat} (D : Df K mg "_law_like" s_law_like ["_law_script", "_law_tape", "_law_deep", "_law_near", "_law_pool_here"]) (M : Mg mg t) (F_law_kind : Cal P w K mg CX0 "_law_kind" (3 * n + 132) ["_law_script", "_law_tape", "_law_deep", "_law_near", "_law_pool_here"] (spGen K true n)) (F_law_term : Cal P w K mg CX0 "_law_term" (3 * n + 132) ["_law_script", "_law_tape", "_law_deep", "_law_near", "_law_pool_here"] (spGen K false n)) : Cal P w K mg CX0 "_law_like" (3 * n + 133) ["_law_script", "_law_tape", "_law_deep", "_law_near", "_law_pool_here"] (spHel K n (2 * n + 3) (1 + 6 * p5 n) (2 * cst n)) := by
  refine D.ok sc_law_like (fun vs H Q E h => ?_) (fun base f cdv A outer s H vs Q E hr h => ?_)
  · obtain ⟨a, p, c, ns, i, deep, near, rfl, _⟩ := h
    rfl
  obtain ⟨a, p, c, ns, i, deep, near, rfl, g, hi, d0, d1, hn, n0, n1, q⟩ := h
  have i0 := g.T.i0
  have c10 := cst_ge n
  have p1 := p5_ge n
  refine ⟨_, (pss_cons (ps_set (i := 5) sc_law_like.nd rfl (by first | exact Or.inl rfl | exact Or.inr rfl) (pe_fn F_law_kind (hr.mono (by omega)) rfl pass0 (pa_cons (pv 0) (pa_cons (pv 1) (pa_cons (pe_op op_sub (pv 2) pe_int) (pa_cons (pv 3) (pa_cons (pv 4) pa_nil)))))))
      (pss_one (ps_ret (pe_tup (pa_cons pe_str (pa_cons (pv 5) (pa_cons (pe_fn F_law_term (hr.mono (by omega)) rfl pass0 (pa_cons (pv 0) (pa_cons (pv 1) (pa_cons (pe_op op_sub (pv 2) pe_int) (pa_cons (pv 3) (pa_cons (pv 4) pa_nil)))))) pa_nil))))))), ?_⟩
  try dsimp only [cxK, cxK2]
  refine let2 ?_
  intro _ _
  refine ⟨_, rfl, _, rfl, _, rfl, _, _, rfl, rfl, _, rfl, _, rfl, a, p, c, ns, i, deep - 2, near, rfl, g, (by omega), (by omega), (by omega), (by omega), (by omega), (by omega), fun dA vA H1 i1 oA => ?_⟩
  have hA := oA.hi
  have lA := oA.lo
  have dpA := oA.dp
  have knA := oA.kn
  refine ⟨_, rfl, _, rfl, _, rfl, _, rfl, _, _, rfl, rfl, _, rfl, _, rfl, a, p, c, ns, i1, deep - 1, near, rfl, oA.g, (by omega), (by omega), (by omega), (by omega), (by omega), (by omega), fun dB vB H2 i2 oB => ?_⟩
  have hB := oB.hi
  have lB := oB.lo
  have dpB := oB.dp
  have knB := oB.kn
  refine ⟨(by show 3 ≤ sizeLine; decide), fun q1 e1 => ?_⟩
  exact q _ _ _ _ (made (oA.sx.trans oB.sx) oB.g e1 (rs rw_ (rs (oA.later oB.sx) (rs oB.r r0))) (wf_like oA.wf oB.wf) (by apply KM.d0; with_reducible repeat' first | apply KM.q0i | apply KM.q0s | apply KM.q0 | apply KM.q4 | apply KM.q3 | apply KM.q2 | apply KM.q1 | omega) (by simp only [knots, knotsL]; omega) (by omega) (by omega))
theorem sc_law_number : FnScope ["_law_script", "_law_tape", "_law_deep", "_law_near", "_law_pool_here"] ["_law_script", "_law_tape", "_law_deep", "_law_near", "_law_pool_here"] (defScope s_law_number) := ⟨rfl, rfl, rfl, by decide +kernel, rfl, by decide +kernel, by decide +kernel⟩
theorem c_law_number {n : Nat} (D : Df K mg "_law_number" s_law_number ["_law_script", "_law_tape", "_law_deep", "_law_near", "_law_pool_here"]) (M : Mg mg t) (F_law_draw : Cal P w K mg CX0 "_law_draw" (1) ["_law_script", "_law_tape", "_law_many"] (spDraw K)) (F_law_term : Cal P w K mg CX0 "_law_term" (3 * n + 132) ["_law_script", "_law_tape", "_law_deep", "_law_near", "_law_pool_here"] (spGen K false n)) : Cal P w K mg CX0 "_law_number" (3 * n + 133) ["_law_script", "_law_tape", "_law_deep", "_law_near", "_law_pool_here"] (spHel K n (2 * n + 3) (1 + 3 * p5 n) (1 + cst n)) := by
  refine D.ok sc_law_number (fun vs H Q E h => ?_) (fun base f cdv A outer s H vs Q E hr h => ?_)
  · obtain ⟨a, p, c, ns, i, deep, near, rfl, _⟩ := h
    rfl
  obtain ⟨a, p, c, ns, i, deep, near, rfl, g, hi, d0, d1, hn, n0, n1, q⟩ := h
  have i0 := g.T.i0
  have c10 := cst_ge n
  have p1 := p5_ge n
  refine ⟨_, (pss_cons (ps_if (pt_cmpR op_eq (pe_fn F_law_draw (hr.mono (by omega)) rfl pass0 (pa_cons (pv 0) (pa_cons (pv 1) (pa_cons pe_int pa_nil)))) pe_int (nomark _)) (pss_one (ps_ret (pe_tup (pa_cons pe_str pa_nil)))) pss_nil)
      (pss_one (ps_ret (pe_tup (pa_cons pe_str (pa_cons (pe_fn F_law_term (hr.mono (by omega)) rfl pass0 (pa_cons (pv 0) (pa_cons (pv 1) (pa_cons (pe_op op_sub (pv 2) pe_int) (pa_cons (pv 3) (pa_cons (pv 4) pa_nil)))))) pa_nil)))))), ?_⟩
  try dsimp only [cxK, cxK2]
  refine let2 ?_
  intro _ _
  refine ⟨_, rfl, _, rfl, a, p, ns, i, 3, rfl, g.T, (by omega), (by decide), fun way H0 w0 w1 x0 h0 => ⟨rfl, _, rfl, ?_⟩⟩
  have g0 := g.next x0 h0 (by omega)
  refine ite2 (fun _ => ?_) (fun _ => ?_)
  · refine ⟨(by show 1 ≤ sizeLine; decide), fun q1 e1 => ?_⟩
    exact q _ _ _ _ (made x0 g0 e1 (rs rw_ r0) wf_zero (by apply KM.d0; with_reducible repeat' first | apply KM.q0i | apply KM.q0s | apply KM.q0 | apply KM.q4 | apply KM.q3 | apply KM.q2 | apply KM.q1 | omega) (by simp only [knots, knotsL]; omega) (by omega) (by omega))
  refine ⟨_, rfl, _, rfl, _, rfl, _, _, rfl, rfl, _, rfl, _, rfl, a, p, c, ns, i + 1, deep - 1, near, rfl, g0, (by omega), (by omega), (by omega), (by omega), (by omega), (by omega), fun dA vA H1 i1 oA => ?_⟩
  have hA := oA.hi
  have lA := oA.lo
  have dpA := oA.dp
  have knA := oA.kn
  refine ⟨(by show 2 ≤ sizeLine; decide), fun q1 e1 => ?_⟩
  exact q _ _ _ _ (made (x0.trans oA.sx) oA.g e1 (rs rw_ (rs oA.r r0)) (wf_next oA.wf) (by apply KM.d0; with_reducible repeat' first | apply KM.q0i | apply KM.q0s | apply KM.q0 | apply KM.q4 | apply KM.q3 | apply KM.q2 | apply KM.q1 | omega) (by simp only [knots, knotsL]; omega) (by omega) (by omega))
def spWay (K : PySem.W.Frag) (n dp kn : Nat) (co : Int) : Sp := fun vs H Q _ => ∃ (a p c : Addr) (ns : List Int) (i deep near way : Int), vs = [.ref a, .ref p, .int deep, .int near, .ref c, .int way] ∧ Sg K a p c ns H i ∧ i + 9 * cst n < 2 ^ 58 ∧ 1 ≤ deep ∧ deep < n ∧ n ≤ 9 ∧ 0 ≤ near ∧ near + n + 1 ≤ 99 ∧
  ∀ (d : D) (v : V) (H' : Hp) (i' : Int), Ou K a p c ns H i false dp kn co d v H' i' → Q v H'
theorem sc_law_parted : FnScope ["_law_script", "_law_tape", "_law_deep", "_law_near", "_law_pool_here", "_law_way", "_law_word", "_law_kind_here", "_law_first", "_law_second"] ["_law_script", "_law_tape", "_law_deep", "_law_near", "_law_pool_here", "_law_way"] (defScope s_law_parted) := ⟨rfl, rfl, rfl, by decide +kernel, rfl, by decide +kernel, by decide +kernel⟩
theorem c_law_parted {n : Nat} (D : Df K mg "_law_parted" s_law_parted ["_law_script", "_law_tape", "_law_deep", "_law_near", "_law_pool_here", "_law_way"]) (M : Mg mg t) (F_law_draw : Cal P w K mg CX0 "_law_draw" (1) ["_law_script", "_law_tape", "_law_many"] (spDraw K)) (F_law_kind : Cal P w K mg CX0 "_law_kind" (3 * n + 132) ["_law_script", "_law_tape", "_law_deep", "_law_near", "_law_pool_here"] (spGen K true n)) (F_law_term : Cal P w K mg CX0 "_law_term" (3 * n + 132) ["_law_script", "_law_tape", "_law_deep", "_law_near", "_law_pool_here"] (spGen K false n)) (F_law_fun : Cal P w K mg CX0 "_law_fun" (3 * n + 133) ["_law_script", "_law_tape", "_law_deep", "_law_near", "_law_pool_here"] (spHel K n (2 * n + 3) (1 + 6 * p5 n) (2 * cst n))) (F_law_pair : Cal P w K mg CX0 "_law_pair" (3 * n + 133) ["_law_script", "_law_tape", "_law_deep", "_law_near", "_law_pool_here"] (spHel K n (2 * n + 3) (1 + 9 * p5 n) (3 * cst n))) (F_law_like : Cal P w K mg CX0 "_law_like" (3 * n + 133) ["_law_script", "_law_tape", "_law_deep", "_law_near", "_law_pool_here"] (spHel K n (2 * n + 3) (1 + 6 * p5 n) (2 * cst n))) (F_law_number : Cal P w K mg CX0 "_law_number" (3 * n + 133) ["_law_script", "_law_tape", "_law_deep", "_law_near", "_law_pool_here"] (spHel K n (2 * n + 3) (1 + 3 * p5 n) (1 + cst n))) : Cal P w K mg CX0 "_law_parted" (3 * n + 134) ["_law_script", "_law_tape", "_law_deep", "_law_near", "_law_pool_here", "_law_way"] (spWay K n (2 * n + 4) (2 + 12 * p5 n) (2 + 5 * cst n)) := by
  refine D.ok sc_law_parted (fun vs H Q E h => ?_) (fun base f cdv A outer s H vs Q E hr h => ?_)
  · obtain ⟨a, p, c, ns, i, deep, near, way, rfl, _⟩ := h
    rfl
  obtain ⟨a, p, c, ns, i, deep, near, way, rfl, g, hi, d0, d1, hn, n0, n1, q⟩ := h
  have i0 := g.T.i0
  have c10 := cst_ge n
  have p1 := p5_ge n
  refine ⟨_, (pss_cons (ps_if (pt_cmpR op_eq (pv 5) pe_int (nomark _)) (pss_one (ps_ret (pe_tup (pa_cons pe_str (pa_cons (pe_fn F_law_fun (hr.mono (by omega)) rfl pass0 (pa_cons (pv 0) (pa_cons (pv 1) (pa_cons (pv 2) (pa_cons (pv 3) (pa_cons (pv 4) pa_nil)))))) (pa_cons (pe_fn F_law_term (hr.mono (by omega)) rfl pass0 (pa_cons (pv 0) (pa_cons (pv 1) (pa_cons (pe_op op_sub (pv 2) pe_int) (pa_cons (pv 3) (pa_cons (pv 4) pa_nil)))))) pa_nil)))))) pss_nil)
      (pss_cons (ps_if (pt_cmpR op_eq (pv 5) pe_int (nomark _)) (pss_cons (ps_set (i := 6) sc_law_parted.nd rfl (by first | exact Or.inl rfl | exact Or.inr rfl) (pe_ix ix_list (pe_lst (pa_cons pe_str (pa_cons pe_str pa_nil))) (pe_fn F_law_draw (hr.mono (by omega)) rfl pass0 (pa_cons (pv 0) (pa_cons (pv 1) (pa_cons pe_int pa_nil)))) (fun _ _ => rfl)))
      (pss_one (ps_ret (pe_tup (pa_cons (pv 6) (pa_cons (pe_fn F_law_pair (hr.mono (by omega)) rfl pass0 (pa_cons (pv 0) (pa_cons (pv 1) (pa_cons (pv 2) (pa_cons (pv 3) (pa_cons (pv 4) pa_nil)))))) pa_nil)))))) pss_nil)
      (pss_cons (ps_set (i := 7) sc_law_parted.nd rfl (by first | exact Or.inl rfl | exact Or.inr rfl) (pe_fn F_law_kind (hr.mono (by omega)) rfl pass0 (pa_cons (pv 0) (pa_cons (pv 1) (pa_cons (pe_op op_sub (pv 2) pe_int) (pa_cons (pe_op op_add (pv 3) pe_int) (pa_cons (pv 4) pa_nil)))))))
      (pss_cons (ps_set (i := 8) sc_law_parted.nd rfl (by first | exact Or.inl rfl | exact Or.inr rfl) (pe_fn F_law_term (hr.mono (by omega)) rfl pass0 (pa_cons (pv 0) (pa_cons (pv 1) (pa_cons (pe_op op_sub (pv 2) pe_int) (pa_cons (pv 3) (pa_cons (pv 4) pa_nil)))))))
      (pss_cons (ps_if (pt_cmpR op_eq (pv 5) pe_int (nomark _)) (pss_one (ps_ret (pe_tup (pa_cons pe_str (pa_cons (pv 7) (pa_cons (pv 8) (pa_cons (pe_fn F_law_like (hr.mono (by omega)) rfl pass0 (pa_cons (pv 0) (pa_cons (pv 1) (pa_cons (pv 2) (pa_cons (pv 3) (pa_cons (pv 4) pa_nil)))))) pa_nil))))))) pss_nil)
      (pss_cons (ps_set (i := 9) sc_law_parted.nd rfl (by first | exact Or.inl rfl | exact Or.inr rfl) (pe_fn F_law_term (hr.mono (by omega)) rfl pass0 (pa_cons (pv 0) (pa_cons (pv 1) (pa_cons (pe_op op_sub (pv 2) pe_int) (pa_cons (pv 3) (pa_cons (pv 4) pa_nil)))))))
      (pss_one (ps_ret (pe_tup (pa_cons pe_str (pa_cons (pv 7) (pa_cons (pv 8) (pa_cons (pv 9) (pa_cons (pe_fn F_law_number (hr.mono (by omega)) rfl pass0 (pa_cons (pv 0) (pa_cons (pv 1) (pa_cons (pv 2) (pa_cons (pv 3) (pa_cons (pv 4) pa_nil)))))) pa_nil)))))))))))))), ?_⟩
  try dsimp only [cxK, cxK2]
  refine let7 ?_
  intro _ _ _ _ _ _ _
  refine ⟨_, rfl, rfl, _, rfl, ite2 (fun _ => ?_) (fun _ => ?_)⟩
  · refine ⟨_, rfl, _, rfl, _, rfl, _, rfl, _, rfl, a, p, c, ns, i, deep, near, rfl, g, (by omega), d0, d1, (by omega), n0, n1, fun dA vA H1 i1 oA => ?_⟩
    have hA := oA.hi
    have lA := oA.lo
    have dpA := oA.dp
    have knA := oA.kn
    refine ⟨_, rfl, _, rfl, _, rfl, _, _, rfl, rfl, _, rfl, _, rfl, a, p, c, ns, i1, deep - 1, near, rfl, oA.g, (by omega), (by omega), (by omega), (by omega), (by omega), (by omega), fun dB vB H2 i2 oB => ?_⟩
    have hB := oB.hi
    have lB := oB.lo
    have dpB := oB.dp
    have knB := oB.kn
    refine ⟨(by show 3 ≤ sizeLine; decide), fun q1 e1 => ?_⟩
    exact q _ _ _ _ (made (oA.sx.trans oB.sx) oB.g e1 (rs rw_ (rs (oA.later oB.sx) (rs oB.r r0))) (wf_app oA.wf oB.wf) (by apply KM.d0; with_reducible repeat' first | apply KM.q0i | apply KM.q0s | apply KM.q0 | apply KM.q4 | apply KM.q3 | apply KM.q2 | apply KM.q1 | omega) (by simp only [knots, knotsL]; omega) (by omega) (by omega))
  refine ⟨_, rfl, rfl, _, rfl, ite2 (fun _ => ?_) (fun _ => ?_)⟩
  · refine ⟨(by show 2 ≤ sizeLine; decide), fun q0 e0 => ?_⟩
    have t0 := same_new e0 (.lst [V.str "first", .str "second"])
    refine ⟨_, rfl, _, rfl, a, p, ns, i, 2, rfl, (g.mono t0).T, (by omega), (by decide), fun wz H9 w0 w1 x9 h9 => ?_⟩
    have g9 := (g.mono t0).next x9 h9 (by omega)
    obtain ⟨y, hy, hyy⟩ : ∃ y : Str, atI [V.str "first", .str "second"] wz = some (.str y) ∧ (y = "first" ∨ y = "second") := by
      have : wz = 0 ∨ wz = 1 := by omega
      rcases this with rfl | rfl
      · exact ⟨_, rfl, .inl rfl⟩
      · exact ⟨_, rfl, .inr rfl⟩
    have hne : q0 ≠ p := fun z => by subst z; rw [g.T.tape] at e0; cases e0
    have hq0 := x9 _ _ hne (show (upd _ q0 (.lst [V.str "first", .str "second"])) q0 = some _ from upd_same)
    have hyl : y.length ≤ 1000 := by rcases hyy with rfl | rfl <;> decide
    have hwy : ∀ {d : KM.D}, wfG isStrD false d = true → wfG isStrD false (.tup [.str y, d]) = true := fun h => by
      rcases hyy with rfl | rfl
      · exact wf_first h
      · exact wf_second h
    refine ⟨q0, _, _, _, rfl, rfl, SqL.of hq0, hy, ?_⟩
    refine ⟨_, rfl, _, rfl, _, rfl, _, rfl, _, rfl, _, rfl, a, p, c, ns, i + 1, deep, near, rfl, g9, (by omega), d0, d1, (by omega), n0, n1, fun dA vA H1 i1 oA => ?_⟩
    have hA := oA.hi
    have lA := oA.lo
    have dpA := oA.dp
    have knA := oA.kn
    refine ⟨(by show 2 ≤ sizeLine; decide), fun q1 e1 => ?_⟩
    exact q _ _ _ _ (made ((t0.x.trans x9).trans oA.sx) oA.g e1 (rs (rw_ hyl) (rs oA.r r0)) (hwy oA.wf) (by apply KM.d0; with_reducible repeat' first | apply KM.q0i | apply KM.q0s | apply KM.q0 | apply KM.q4 | apply KM.q3 | apply KM.q2 | apply KM.q1 | omega) (by simp only [knots, knotsL]; omega) (by omega) (by omega))
  refine ⟨_, rfl, _, rfl, _, rfl, _, _, rfl, rfl, _, rfl, _, _, rfl, rfl, _, rfl, a, p, c, ns, i, deep - 2, near + 1, rfl, g, (by omega), (by omega), (by omega), (by omega), (by omega), (by omega), fun dA vA H1 i1 oA => ?_⟩
  have hA := oA.hi
  have lA := oA.lo
  have dpA := oA.dp
  have knA := oA.kn
  refine ⟨_, rfl, _, rfl, _, rfl, _, _, rfl, rfl, _, rfl, _, rfl, a, p, c, ns, i1, deep - 1, near, rfl, oA.g, (by omega), (by omega), (by omega), (by omega), (by omega), (by omega), fun dB vB H2 i2 oB => ?_⟩
  have hB := oB.hi
  have lB := oB.lo
  have dpB := oB.dp
  have knB := oB.kn
  refine ⟨_, rfl, rfl, _, rfl, ite2 (fun _ => ?_) (fun _ => ?_)⟩
  · refine ⟨_, rfl, _, rfl, _, rfl, _, rfl, _, rfl, _, rfl, _, rfl, a, p, c, ns, i2, deep, near, rfl, oB.g, (by omega), d0, d1, (by omega), n0, n1, fun dC vC H3 i3 oC => ?_⟩
    have hC := oC.hi
    have lC := oC.lo
    have dpC := oC.dp
    have knC := oC.kn
    refine ⟨(by show 4 ≤ sizeLine; decide), fun q1 e1 => ?_⟩
    exact q _ _ _ _ (made (oA.sx.trans (oB.sx.trans oC.sx)) oC.g e1 (rs rw_ (rs (oA.later (oB.sx.trans oC.sx)) (rs (oB.later oC.sx) (rs oC.r r0)))) (wf_carry oA.wf oB.wf oC.wf) (by apply KM.d0; with_reducible repeat' first | apply KM.q0i | apply KM.q0s | apply KM.q0 | apply KM.q4 | apply KM.q3 | apply KM.q2 | apply KM.q1 | omega) (by simp only [knots, knotsL]; omega) (by omega) (by omega))
  refine ⟨_, rfl, _, rfl, _, rfl, _, _, rfl, rfl, _, rfl, _, rfl, a, p, c, ns, i2, deep - 1, near, rfl, oB.g, (by omega), (by omega), (by omega), (by omega), (by omega), (by omega), fun dC vC H3 i3 oC => ?_⟩
  have hC := oC.hi
  have lC := oC.lo
  have dpC := oC.dp
  have knC := oC.kn
  refine ⟨_, rfl, _, rfl, _, rfl, _, rfl, _, rfl, _, rfl, _, rfl, _, rfl, a, p, c, ns, i3, deep, near, rfl, oC.g, (by omega), d0, d1, (by omega), n0, n1, fun dE vE H4 i4 oE => ?_⟩
  have hE := oE.hi
  have lE := oE.lo
  have dpE := oE.dp
  have knE := oE.kn
  refine ⟨(by show 5 ≤ sizeLine; decide), fun q1 e1 => ?_⟩
  exact q _ _ _ _ (made (oA.sx.trans (oB.sx.trans (oC.sx.trans oE.sx))) oE.g e1 (rs rw_ (rs (oA.later (oB.sx.trans (oC.sx.trans oE.sx))) (rs (oB.later (oC.sx.trans oE.sx)) (rs (oC.later oE.sx) (rs oE.r r0))))) (wf_rec oA.wf oB.wf oC.wf oE.wf) (by apply KM.d0; with_reducible repeat' first | apply KM.q0i | apply KM.q0s | apply KM.q0 | apply KM.q4 | apply KM.q3 | apply KM.q2 | apply KM.q1 | omega) (by simp only [knots, knotsL]; omega) (by omega) (by omega))
end K30
end
section
set_option maxHeartbeats 2000000
namespace K30
open PySem L2 L3 KM PyProof.Rows
seal L2.PE L2.PS L2.PSs L2.PT L2.PW L2.PA L2.PG L2.PGs L2.PI L2.PC L2.PO L2.PPs L2.PK L3.PIf
variable {P : Program} {w : World} {K : PySem.W.Frag} {mg : Str → Option Value} {base : Heap} {t : Adr}
theorem sc_law_still : FnScope ["_law_script", "_law_tape", "_law_deep", "_law_near", "_law_pool_here", "_law_way", "_law_one", "_law_two", "_law_three"] ["_law_script", "_law_tape", "_law_deep", "_law_near", "_law_pool_here", "_law_way"] (defScope s_law_still) := ⟨rfl, rfl, rfl, by decide +kernel, rfl, by decide +kernel, by decide +kernel⟩
theorem c_law_still {n : Nat} (D : Df K mg "_law_still" s_law_still ["_law_script", "_law_tape", "_law_deep", "_law_near", "_law_pool_here", "_law_way"]) (M : Mg mg t) (F_law_draw : Cal P w K mg CX0 "_law_draw" (1) ["_law_script", "_law_tape", "_law_many"] (spDraw K)) (F_law_kind : Cal P w K mg CX0 "_law_kind" (3 * n + 132) ["_law_script", "_law_tape", "_law_deep", "_law_near", "_law_pool_here"] (spGen K true n)) (F_law_term : Cal P w K mg CX0 "_law_term" (3 * n + 132) ["_law_script", "_law_tape", "_law_deep", "_law_near", "_law_pool_here"] (spGen K false n)) (F_law_fun : Cal P w K mg CX0 "_law_fun" (3 * n + 133) ["_law_script", "_law_tape", "_law_deep", "_law_near", "_law_pool_here"] (spHel K n (2 * n + 3) (1 + 6 * p5 n) (2 * cst n))) (F_law_pair : Cal P w K mg CX0 "_law_pair" (3 * n + 133) ["_law_script", "_law_tape", "_law_deep", "_law_near", "_law_pool_here"] (spHel K n (2 * n + 3) (1 + 9 * p5 n) (3 * cst n))) (F_law_like : Cal P w K mg CX0 "_law_like" (3 * n + 133) ["_law_script", "_law_tape", "_law_deep", "_law_near", "_law_pool_here"] (spHel K n (2 * n + 3) (1 + 6 * p5 n) (2 * cst n))) : Cal P w K mg CX0 "_law_still" (3 * n + 134) ["_law_script", "_law_tape", "_law_deep", "_law_near", "_law_pool_here", "_law_way"] (spWay K n (2 * n + 4) (1 + 12 * p5 n) (1 + 4 * cst n)) := by
  refine D.ok sc_law_still (fun vs H Q E h => ?_) (fun base f cdv A outer s H vs Q E hr h => ?_)
  · obtain ⟨a, p, c, ns, i, deep, near, way, rfl, _⟩ := h
    rfl
  obtain ⟨a, p, c, ns, i, deep, near, way, rfl, g, hi, d0, d1, hn, n0, n1, q⟩ := h
  have i0 := g.T.i0
  have c10 := cst_ge n
  have p1 := p5_ge n
  refine ⟨_, (pss_cons (ps_if (pt_cmpR op_lt (pv 5) pe_int (nomark _)) (pss_one (ps_ret (pe_tup (pa_cons pe_str (pa_cons (pe_fn F_law_term (hr.mono (by omega)) rfl pass0 (pa_cons (pv 0) (pa_cons (pv 1) (pa_cons (pe_op op_sub (pv 2) pe_int) (pa_cons (pv 3) (pa_cons (pv 4) pa_nil)))))) pa_nil))))) pss_nil)
      (pss_cons (ps_if (pt_cmpR op_eq (pv 5) pe_int (nomark _)) (pss_one (ps_ret (pe_fn F_law_fun (hr.mono (by omega)) rfl pass0 (pa_cons (pv 0) (pa_cons (pv 1) (pa_cons (pv 2) (pa_cons (pv 3) (pa_cons (pv 4) pa_nil)))))))) pss_nil)
      (pss_cons (ps_if (pt_cmpR op_eq (pv 5) pe_int (nomark _)) (pss_one (ps_ret (pe_fn F_law_pair (hr.mono (by omega)) rfl pass0 (pa_cons (pv 0) (pa_cons (pv 1) (pa_cons (pv 2) (pa_cons (pv 3) (pa_cons (pv 4) pa_nil)))))))) pss_nil)
      (pss_cons (ps_if (pt_cmpR op_eq (pv 5) pe_int (nomark _)) (pss_one (ps_ret (pe_fn F_law_like (hr.mono (by omega)) rfl pass0 (pa_cons (pv 0) (pa_cons (pv 1) (pa_cons (pv 2) (pa_cons (pv 3) (pa_cons (pv 4) pa_nil)))))))) pss_nil)
      (pss_cons (ps_set (i := 6) sc_law_still.nd rfl (by first | exact Or.inl rfl | exact Or.inr rfl) (pe_fn F_law_term (hr.mono (by omega)) rfl pass0 (pa_cons (pv 0) (pa_cons (pv 1) (pa_cons (pe_op op_sub (pv 2) pe_int) (pa_cons (pv 3) (pa_cons (pv 4) pa_nil)))))))
      (pss_cons (ps_if (pt_cmpR op_eq (pv 5) pe_int (nomark _)) (pss_one (ps_ret (pe_tup (pa_cons pe_str (pa_cons (pe_fn F_law_kind (hr.mono (by omega)) rfl pass0 (pa_cons (pv 0) (pa_cons (pv 1) (pa_cons (pe_op op_sub (pv 2) pe_int) (pa_cons (pv 3) (pa_cons (pv 4) pa_nil)))))) (pa_cons (pv 6) pa_nil)))))) pss_nil)
      (pss_cons (ps_if (pt_cmpR op_eq (pv 5) pe_int (nomark _)) (pss_one (ps_ret (pe_tup (pa_cons (pe_ix ix_list (pe_lst (pa_cons pe_str (pa_cons pe_str pa_nil))) (pe_fn F_law_draw (hr.mono (by omega)) rfl pass0 (pa_cons (pv 0) (pa_cons (pv 1) (pa_cons pe_int pa_nil)))) (fun _ _ => rfl)) (pa_cons (pv 6) pa_nil))))) pss_nil)
      (pss_cons (ps_set (i := 7) sc_law_still.nd rfl (by first | exact Or.inl rfl | exact Or.inr rfl) (pe_fn F_law_term (hr.mono (by omega)) rfl pass0 (pa_cons (pv 0) (pa_cons (pv 1) (pa_cons (pe_op op_sub (pv 2) pe_int) (pa_cons (pv 3) (pa_cons (pv 4) pa_nil)))))))
      (pss_cons (ps_if (pt_cmpR op_eq (pv 5) pe_int (nomark _)) (pss_one (ps_ret (pe_tup (pa_cons pe_str (pa_cons (pv 6) (pa_cons (pv 7) pa_nil)))))) pss_nil)
      (pss_cons (ps_if (pt_cmpR op_eq (pv 5) pe_int (nomark _)) (pss_one (ps_ret (pe_tup (pa_cons pe_str (pa_cons (pe_fn F_law_kind (hr.mono (by omega)) rfl pass0 (pa_cons (pv 0) (pa_cons (pv 1) (pa_cons (pe_op op_sub (pv 2) pe_int) (pa_cons (pe_op op_add (pv 3) pe_int) (pa_cons (pv 4) pa_nil)))))) (pa_cons (pv 6) (pa_cons (pv 7) pa_nil))))))) pss_nil)
      (pss_cons (ps_set (i := 8) sc_law_still.nd rfl (by first | exact Or.inl rfl | exact Or.inr rfl) (pe_fn F_law_term (hr.mono (by omega)) rfl pass0 (pa_cons (pv 0) (pa_cons (pv 1) (pa_cons (pe_op op_sub (pv 2) pe_int) (pa_cons (pv 3) (pa_cons (pv 4) pa_nil)))))))
      (pss_one (ps_ret (pe_tup (pa_cons pe_str (pa_cons (pe_fn F_law_kind (hr.mono (by omega)) rfl pass0 (pa_cons (pv 0) (pa_cons (pv 1) (pa_cons (pe_op op_sub (pv 2) pe_int) (pa_cons (pe_op op_add (pv 3) pe_int) (pa_cons (pv 4) pa_nil)))))) (pa_cons (pv 6) (pa_cons (pv 7) (pa_cons (pv 8) pa_nil))))))))))))))))))), ?_⟩
  try dsimp only [cxK, cxK2]
  refine let12 ?_
  intro _ _ _ _ _ _ _ _ _ _ _ _
  refine ⟨_, rfl, _, _, rfl, rfl, _, rfl, ite2 (fun _ => ?_) (fun _ => ?_)⟩
  · refine ⟨_, rfl, _, rfl, _, rfl, _, _, rfl, rfl, _, rfl, _, rfl, a, p, c, ns, i, deep - 1, near, rfl, g, (by omega), (by omega), (by omega), (by omega), (by omega), (by omega), fun dA vA H1 i1 oA => ?_⟩
    have hA := oA.hi
    have lA := oA.lo
    have dpA := oA.dp
    have knA := oA.kn
    refine ⟨(by show 2 ≤ sizeLine; decide), fun q1 e1 => ?_⟩
    exact q _ _ _ _ (made (oA.sx) oA.g e1 (rs rw_ (rs oA.r r0)) (wf_next oA.wf) (by apply KM.d0; with_reducible repeat' first | apply KM.q0i | apply KM.q0s | apply KM.q0 | apply KM.q4 | apply KM.q3 | apply KM.q2 | apply KM.q1 | omega) (by simp only [knots, knotsL]; omega) (by omega) (by omega))
  refine ⟨_, rfl, rfl, _, rfl, ite2 (fun _ => ?_) (fun _ => ?_)⟩
  · refine ⟨_, rfl, _, rfl, _, rfl, _, rfl, _, rfl, a, p, c, ns, i, deep, near, rfl, g, (by omega), d0, d1, (by omega), n0, n1, fun dA vA H1 i1 oA => ?_⟩
    have hA := oA.hi
    have lA := oA.lo
    have dpA := oA.dp
    have knA := oA.kn
    exact q _ _ _ _ (oA.weak (by omega) (by omega) (by omega))
  refine ⟨_, rfl, rfl, _, rfl, ite2 (fun _ => ?_) (fun _ => ?_)⟩
  · refine ⟨_, rfl, _, rfl, _, rfl, _, rfl, _, rfl, a, p, c, ns, i, deep, near, rfl, g, (by omega), d0, d1, (by omega), n0, n1, fun dA vA H1 i1 oA => ?_⟩
    have hA := oA.hi
    have lA := oA.lo
    have dpA := oA.dp
    have knA := oA.kn
    exact q _ _ _ _ (oA.weak (by omega) (by omega) (by omega))
  refine ⟨_, rfl, rfl, _, rfl, ite2 (fun _ => ?_) (fun _ => ?_)⟩
  · refine ⟨_, rfl, _, rfl, _, rfl, _, rfl, _, rfl, a, p, c, ns, i, deep, near, rfl, g, (by omega), d0, d1, (by omega), n0, n1, fun dA vA H1 i1 oA => ?_⟩
    have hA := oA.hi
    have lA := oA.lo
    have dpA := oA.dp
    have knA := oA.kn
    exact q _ _ _ _ (oA.weak (by omega) (by omega) (by omega))
  refine ⟨_, rfl, _, rfl, _, rfl, _, _, rfl, rfl, _, rfl, _, rfl, a, p, c, ns, i, deep - 1, near, rfl, g, (by omega), (by omega), (by omega), (by omega), (by omega), (by omega), fun dA vA H1 i1 oA => ?_⟩
  have hA := oA.hi
  have lA := oA.lo
  have dpA := oA.dp
  have knA := oA.kn
  refine ⟨_, rfl, rfl, _, rfl, ite2 (fun _ => ?_) (fun _ => ?_)⟩
  · refine ⟨_, rfl, _, rfl, _, rfl, _, _, rfl, rfl, _, rfl, _, rfl, a, p, c, ns, i1, deep - 2, near, rfl, oA.g, (by omega), (by omega), (by omega), (by omega), (by omega), (by omega), fun dB vB H2 i2 oB => ?_⟩
    have hB := oB.hi
    have lB := oB.lo
    have dpB := oB.dp
    have knB := oB.kn
    refine ⟨_, rfl, (by show 3 ≤ sizeLine; decide), fun q1 e1 => ?_⟩
    exact q _ _ _ _ (made (oA.sx.trans oB.sx) oB.g e1 (rs rw_ (rs oB.r (rs (oA.later oB.sx) r0))) (wf_never oB.wf oA.wf) (by apply KM.d0; with_reducible repeat' first | apply KM.q0i | apply KM.q0s | apply KM.q0 | apply KM.q4 | apply KM.q3 | apply KM.q2 | apply KM.q1 | omega) (by simp only [knots, knotsL]; omega) (by omega) (by omega))
  refine ⟨_, rfl, rfl, _, rfl, ite2 (fun _ => ?_) (fun _ => ?_)⟩
  · refine ⟨(by show 2 ≤ sizeLine; decide), fun q0 e0 => ?_⟩
    have t0 := same_new e0 (.lst [V.str "first", .str "second"])
    refine ⟨_, rfl, _, rfl, a, p, ns, i1, 2, rfl, (oA.g.mono t0).T, (by omega), (by decide), fun wz H9 w0 w1 x9 h9 => ?_⟩
    have g9 := (oA.g.mono t0).next x9 h9 (by omega)
    obtain ⟨y, hy, hyy⟩ : ∃ y : Str, atI [V.str "first", .str "second"] wz = some (.str y) ∧ (y = "first" ∨ y = "second") := by
      have : wz = 0 ∨ wz = 1 := by omega
      rcases this with rfl | rfl
      · exact ⟨_, rfl, .inl rfl⟩
      · exact ⟨_, rfl, .inr rfl⟩
    have hne : q0 ≠ p := fun z => by subst z; rw [oA.g.T.tape] at e0; cases e0
    have hq0 := x9 _ _ hne (show (upd _ q0 (.lst [V.str "first", .str "second"])) q0 = some _ from upd_same)
    have hyl : y.length ≤ 1000 := by rcases hyy with rfl | rfl <;> decide
    have hwy : ∀ {d : KM.D}, wfG isStrD false d = true → wfG isStrD false (.tup [.str y, d]) = true := fun h => by
      rcases hyy with rfl | rfl
      · exact wf_first h
      · exact wf_second h
    refine ⟨q0, _, _, _, rfl, rfl, SqL.of hq0, hy, _, rfl, ?_⟩
    refine ⟨(by show 2 ≤ sizeLine; decide), fun q1 e1 => ?_⟩
    exact q _ _ _ _ (made (oA.sx.trans (t0.x.trans x9)) g9 e1 (rs (rw_ hyl) (rs (oA.later (t0.x.trans x9)) r0)) (hwy oA.wf) (by apply KM.d0; with_reducible repeat' first | apply KM.q0i | apply KM.q0s | apply KM.q0 | apply KM.q4 | apply KM.q3 | apply KM.q2 | apply KM.q1 | omega) (by simp only [knots, knotsL]; omega) (by omega) (by omega))
  refine ⟨_, rfl, _, rfl, _, rfl, _, _, rfl, rfl, _, rfl, _, rfl, a, p, c, ns, i1, deep - 1, near, rfl, oA.g, (by omega), (by omega), (by omega), (by omega), (by omega), (by omega), fun dB vB H2 i2 oB => ?_⟩
  have hB := oB.hi
  have lB := oB.lo
  have dpB := oB.dp
  have knB := oB.kn
  refine ⟨_, rfl, rfl, _, rfl, ite2 (fun _ => ?_) (fun _ => ?_)⟩
  · refine ⟨_, rfl, _, rfl, (by show 3 ≤ sizeLine; decide), fun q1 e1 => ?_⟩
    exact q _ _ _ _ (made (oA.sx.trans oB.sx) oB.g e1 (rs rw_ (rs (oA.later oB.sx) (rs oB.r r0))) (wf_app oA.wf oB.wf) (by apply KM.d0; with_reducible repeat' first | apply KM.q0i | apply KM.q0s | apply KM.q0 | apply KM.q4 | apply KM.q3 | apply KM.q2 | apply KM.q1 | omega) (by simp only [knots, knotsL]; omega) (by omega) (by omega))
  refine ⟨_, rfl, rfl, _, rfl, ite2 (fun _ => ?_) (fun _ => ?_)⟩
  · refine ⟨_, rfl, _, rfl, _, rfl, _, _, rfl, rfl, _, rfl, _, _, rfl, rfl, _, rfl, a, p, c, ns, i2, deep - 2, near + 1, rfl, oB.g, (by omega), (by omega), (by omega), (by omega), (by omega), (by omega), fun dC vC H3 i3 oC => ?_⟩
    have hC := oC.hi
    have lC := oC.lo
    have dpC := oC.dp
    have knC := oC.kn
    refine ⟨_, rfl, _, rfl, (by show 4 ≤ sizeLine; decide), fun q1 e1 => ?_⟩
    exact q _ _ _ _ (made (oA.sx.trans (oB.sx.trans oC.sx)) oC.g e1 (rs rw_ (rs oC.r (rs (oA.later (oB.sx.trans oC.sx)) (rs (oB.later oC.sx) r0)))) (wf_carry oC.wf oA.wf oB.wf) (by apply KM.d0; with_reducible repeat' first | apply KM.q0i | apply KM.q0s | apply KM.q0 | apply KM.q4 | apply KM.q3 | apply KM.q2 | apply KM.q1 | omega) (by simp only [knots, knotsL]; omega) (by omega) (by omega))
  refine ⟨_, rfl, _, rfl, _, rfl, _, _, rfl, rfl, _, rfl, _, rfl, a, p, c, ns, i2, deep - 1, near, rfl, oB.g, (by omega), (by omega), (by omega), (by omega), (by omega), (by omega), fun dC vC H3 i3 oC => ?_⟩
  have hC := oC.hi
  have lC := oC.lo
  have dpC := oC.dp
  have knC := oC.kn
  refine ⟨_, rfl, _, rfl, _, rfl, _, _, rfl, rfl, _, rfl, _, _, rfl, rfl, _, rfl, a, p, c, ns, i3, deep - 2, near + 1, rfl, oC.g, (by omega), (by omega), (by omega), (by omega), (by omega), (by omega), fun dE vE H4 i4 oE => ?_⟩
  have hE := oE.hi
  have lE := oE.lo
  have dpE := oE.dp
  have knE := oE.kn
  refine ⟨_, rfl, _, rfl, _, rfl, (by show 5 ≤ sizeLine; decide), fun q1 e1 => ?_⟩
  exact q _ _ _ _ (made (oA.sx.trans (oB.sx.trans (oC.sx.trans oE.sx))) oE.g e1 (rs rw_ (rs oE.r (rs (oA.later (oB.sx.trans (oC.sx.trans oE.sx))) (rs (oB.later (oC.sx.trans oE.sx)) (rs (oC.later oE.sx) r0))))) (wf_rec oE.wf oA.wf oB.wf oC.wf) (by apply KM.d0; with_reducible repeat' first | apply KM.q0i | apply KM.q0s | apply KM.q0 | apply KM.q4 | apply KM.q3 | apply KM.q2 | apply KM.q1 | omega) (by simp only [knots, knotsL]; omega) (by omega) (by omega))
theorem sc_law_term : FnScope ["_law_script", "_law_tape", "_law_deep", "_law_near", "_law_pool_here", "_law_way"] ["_law_script", "_law_tape", "_law_deep", "_law_near", "_law_pool_here"] (defScope s_law_term) := ⟨rfl, rfl, rfl, by decide +kernel, rfl, by decide +kernel, by decide +kernel⟩
theorem st_law_term {n : Nat} (D : Df K mg "_law_term" s_law_term ["_law_script", "_law_tape", "_law_deep", "_law_near", "_law_pool_here"]) (M : Mg mg t) (F_law_draw : Cal P w K mg CX0 "_law_draw" (1) ["_law_script", "_law_tape", "_law_many"] (spDraw K)) (F_law_leaf : Cal P w K mg CX0 "_law_leaf" (131) ["_law_script", "_law_tape", "_law_near", "_law_pool_here"] (spLeaf K)) (F_law_parted : Cal P w K mg CX0 "_law_parted" (3 * n + 134) ["_law_script", "_law_tape", "_law_deep", "_law_near", "_law_pool_here", "_law_way"] (spWay K n (2 * n + 4) (2 + 12 * p5 n) (2 + 5 * cst n))) (F_law_still : Cal P w K mg CX0 "_law_still" (3 * n + 134) ["_law_script", "_law_tape", "_law_deep", "_law_near", "_law_pool_here", "_law_way"] (spWay K n (2 * n + 4) (1 + 12 * p5 n) (1 + 4 * cst n))) : Cal P w K mg CX0 "_law_term" (3 * n + 135) ["_law_script", "_law_tape", "_law_deep", "_law_near", "_law_pool_here"] (spGen K false (n + 1)) := by
  refine D.ok sc_law_term (fun vs H Q E h => ?_) (fun base f cdv A outer s H vs Q E hr h => ?_)
  · obtain ⟨a, p, c, ns, i, deep, near, rfl, _⟩ := h
    rfl
  obtain ⟨a, p, c, ns, i, deep, near, rfl, g, hi, d0, d1, hn, n0, n1, q⟩ := h
  have i0 := g.T.i0
  have e := cst_succ n
  have c10 := cst_ge n
  have e5 := p5_succ n
  have p1 := p5_ge n
  rw [e] at hi q
  rw [e5] at q
  refine ⟨_, (pss_cons (ps_set (i := 5) sc_law_term.nd rfl (by first | exact Or.inl rfl | exact Or.inr rfl) (pe_fn F_law_draw (hr.mono (by omega)) rfl pass0 (pa_cons (pv 0) (pa_cons (pv 1) (pa_cons pe_int pa_nil)))))
      (pss_cons (ps_if (L2.PW.pt (pw_or (pt_cmpR op_lt (pv 2) pe_int (nomark _)) (pw_or1 (pt_cmpR op_lt (pv 5) pe_int (nomark _))))) (pss_one (ps_ret (pe_fn F_law_leaf (hr.mono (by omega)) rfl pass0 (pa_cons (pv 0) (pa_cons (pv 1) (pa_cons (pv 3) (pa_cons (pv 4) pa_nil))))))) pss_nil)
      (pss_cons (ps_if (pt_cmpR op_lt (pv 5) pe_int (nomark _)) (pss_one (ps_ret (pe_fn F_law_parted (hr.mono (by omega)) rfl pass0 (pa_cons (pv 0) (pa_cons (pv 1) (pa_cons (pv 2) (pa_cons (pv 3) (pa_cons (pv 4) (pa_cons (pe_op op_sub (pv 5) pe_int) pa_nil))))))))) pss_nil)
      (pss_one (ps_ret (pe_fn F_law_still (hr.mono (by omega)) rfl pass0 (pa_cons (pv 0) (pa_cons (pv 1) (pa_cons (pv 2) (pa_cons (pv 3) (pa_cons (pv 4) (pa_cons (pe_op op_sub (pv 5) pe_int) pa_nil)))))))))))), ?_⟩
  try dsimp only [cxK, cxK2]
  refine let4 ?_
  intro _ _ _ _
  refine ⟨_, rfl, _, rfl, a, p, ns, i, 17, rfl, g.T, (by omega), (by decide), fun way H1 w0 w1 x1 h1 => ?_⟩
  have g1 := g.next x1 h1 (by omega)
  refine ⟨_, rfl, _, _, rfl, rfl, _, rfl, ?_⟩
  refine ite2 (fun cd => ?_) (fun cd => ?_)
  · exact iteT ⟨_, rfl, _, rfl, _, rfl, _, rfl, a, p, c, ns, i + 1, near, rfl, g1, (by omega), n0, (by omega), fun d v H' i' o => q _ _ _ _ ((o.after (co1 := 1) x1 (by omega) (by omega)).weak (by omega) (by omega) (by omega))⟩
  refine ⟨_, rfl, _, _, rfl, rfl, _, rfl, ?_⟩
  refine ite2 (fun cw => ?_) (fun cw => ?_)
  · exact ⟨_, rfl, _, rfl, _, rfl, _, rfl, a, p, c, ns, i + 1, near, rfl, g1, (by omega), n0, (by omega), fun d v H' i' o => q _ _ _ _ ((o.after (co1 := 1) x1 (by omega) (by omega)).weak (by omega) (by omega) (by omega))⟩
  have cd : ¬ deep < 1 := of_decide_eq_false (Bool.eq_false_iff.mpr cd)
  refine ⟨_, rfl, _, _, rfl, rfl, _, rfl, ?_⟩
  refine ite2 (fun cw2 => ?_) (fun cw2 => ?_)
  · exact ⟨_, rfl, _, rfl, _, rfl, _, rfl, _, rfl, _, rfl, _, _, rfl, rfl, a, p, c, ns, i + 1, deep, near, way - 3, rfl, g1, (by omega), (by omega), (by omega), (by omega), n0, (by omega), fun d v H' i' o => q _ _ _ _ ((o.after (co1 := 1) x1 (by omega) (by omega)).weak (by omega) (by omega) (by omega))⟩
  · exact ⟨_, rfl, _, rfl, _, rfl, _, rfl, _, rfl, _, rfl, _, _, rfl, rfl, a, p, c, ns, i + 1, deep, near, way - 7, rfl, g1, (by omega), (by omega), (by omega), (by omega), n0, (by omega), fun d v H' i' o => q _ _ _ _ ((o.after (co1 := 1) x1 (by omega) (by omega)).weak (by omega) (by omega) (by omega))⟩
theorem c_gen (Dk : Df K mg "_law_kind" s_law_kind ["_law_script", "_law_tape", "_law_deep", "_law_near", "_law_pool_here"]) (Dt : Df K mg "_law_term" s_law_term ["_law_script", "_law_tape", "_law_deep", "_law_near", "_law_pool_here"]) (Df_ : Df K mg "_law_fun" s_law_fun ["_law_script", "_law_tape", "_law_deep", "_law_near", "_law_pool_here"]) (Dp : Df K mg "_law_pair" s_law_pair ["_law_script", "_law_tape", "_law_deep", "_law_near", "_law_pool_here"]) (Dl : Df K mg "_law_like" s_law_like ["_law_script", "_law_tape", "_law_deep", "_law_near", "_law_pool_here"]) (Dn : Df K mg "_law_number" s_law_number ["_law_script", "_law_tape", "_law_deep", "_law_near", "_law_pool_here"]) (Da : Df K mg "_law_parted" s_law_parted ["_law_script", "_law_tape", "_law_deep", "_law_near", "_law_pool_here", "_law_way"]) (Ds : Df K mg "_law_still" s_law_still ["_law_script", "_law_tape", "_law_deep", "_law_near", "_law_pool_here", "_law_way"]) (M : Mg mg t) (F_law_draw : Cal P w K mg CX0 "_law_draw" (1) ["_law_script", "_law_tape", "_law_many"] (spDraw K)) (F_law_leaf : Cal P w K mg CX0 "_law_leaf" (131) ["_law_script", "_law_tape", "_law_near", "_law_pool_here"] (spLeaf K)) :
    ∀ n : Nat, (Cal P w K mg CX0 "_law_kind" (3 * n + 132) ["_law_script", "_law_tape", "_law_deep", "_law_near", "_law_pool_here"] (spGen K true n)) ∧ (Cal P w K mg CX0 "_law_term" (3 * n + 132) ["_law_script", "_law_tape", "_law_deep", "_law_near", "_law_pool_here"] (spGen K false n))
  | 0 => ⟨Cal.never Dk fun vs H Q E ⟨a, p, c, ns, i, deep, near, _, _, _, h1, h2, _⟩ => by omega, Cal.never Dt fun vs H Q E ⟨a, p, c, ns, i, deep, near, _, _, _, h1, h2, _⟩ => by omega⟩
  | n + 1 => by
    obtain ⟨hk, ht⟩ := c_gen Dk Dt Df_ Dp Dl Dn Da Ds M F_law_draw F_law_leaf n
    have f1 := c_law_fun Df_ M hk ht
    have f2 := c_law_pair Dp M hk ht
    have f3 := c_law_like Dl M hk ht
    have f4 := c_law_number Dn M F_law_draw ht
    have f5 := c_law_parted Da M F_law_draw hk ht f1 f2 f3 f4
    have f6 := c_law_still Ds M F_law_draw hk ht f1 f2 f3
    exact ⟨(st_law_kind Dk M F_law_draw hk ht).mono (by omega), (st_law_term Dt M F_law_draw F_law_leaf f5 f6).mono (by omega)⟩
end K30
end
section
set_option maxHeartbeats 1000000
namespace K30
open PySem L2 L3 KM
seal L2.PE L2.PS L2.PSs L2.PT L2.PW L2.PA L2.PG L2.PGs L2.PI L2.PC L2.PO L2.PPs L2.PK L3.PIf
variable {P : Program} {w : World} {K : PySem.W.Frag} {mg : Str → Option Value} {base : Heap} {t : Adr}
theorem sizeLine_eq : sizeLine = 16777216 := by decide
def vastD (d : D) : Bool := !(decide (knots d ≤ 600) && decide (depth d ≤ 40))
end K30
end
section
set_option maxHeartbeats 1000000
namespace K30
open PySem L2 L3 KM PyProof.Rows
seal L2.PE L2.PS L2.PSs L2.PT L2.PW L2.PA L2.PG L2.PGs L2.PI L2.PC L2.PO L2.PPs L2.PK L3.PIf
variable {P : Program} {w : World} {K : PySem.W.Frag} {mg : Str → Option Value} {base : Heap} {t : Adr}
theorem leaf_flat {k : Bool} {x : Str} {ps : List D} (h : wfG isStrD k (.tup (.str x :: ps)) = true) (hx : leafW x = true) : ∀ (i : Nat) (p : D), ps[i]? = some p → isTup p = false ∧ (numD p = true ∨ isStrD p = true) := by
  obtain ⟨s, h1, h2, h3, h4, h5, h6, h7, _⟩ := wf_shape h
  have hc : ∀ (cs : List Nat) (qs : List D) (i : Nat), wfL isStrD cs qs = true → (∀ c ∈ cs, ktB c = !leafW x) → ∀ p, qs[i]? = some p → isTup p = false ∧ (numD p = true ∨ isStrD p = true) := fun cs => by
    induction cs with
    | nil =>
      intro qs i hq _ p e
      cases qs with
      | nil => simp at e
      | cons _ _ => simp [wfL] at hq
    | cons c cs ih =>
      intro qs i hq hk p e
      cases qs with
      | nil => simp [wfL] at hq
      | cons q qs =>
        rw [wfL_cons, Bool.and_eq_true] at hq
        cases i with
        | zero =>
          simp at e
          subst e
          have hkc := hk c List.mem_cons_self
          rw [hx] at hkc
          have hq1 := hq.1
          unfold dueB at hq1
          rw [if_neg (fun z => by rw [z, kt1] at hkc; cases hkc), if_neg (fun z => by rw [z, kt2] at hkc; cases hkc)] at hq1
          split at hq1
          · exact ⟨by cases q <;> simp [numD] at hq1 <;> rfl, .inl hq1⟩
          · exact ⟨by cases q <;> simp [isStrD] at hq1 <;> rfl, .inr hq1⟩
        | succ i => exact ih qs i hq.2 (fun c hc => hk c (List.mem_cons_of_mem _ hc)) p (by simpa using e)
  exact fun i p e => hc _ ps i h3 h6 p e
theorem flat_zero : ∀ (ps : List D), (∀ (i : Nat) (p : D), ps[i]? = some p → isTup p = false) → knotsL ps = 0 ∧ depthL ps = 0
  | [], _ => ⟨rfl, rfl⟩
  | p :: ps, h => by
    obtain ⟨h1, h2⟩ := flat_zero ps fun i q e => h (i + 1) q (by simpa using e)
    have h0 := h 0 p rfl
    have e1 : knots p = 0 := by cases p <;> first | rfl | simp [isTup] at h0
    have e2 : depth p = 0 := by cases p <;> first | rfl | simp [isTup] at h0
    simp [knotsL, depthL, h1, h2, e1, e2]
theorem knotsL_sum : ∀ ps : List D, knotsL ps = (ps.map knots).sum
  | [] => rfl
  | p :: ps => by simp [knotsL, knotsL_sum ps]
theorem depthL_max : ∀ ps : List D, depthL ps = maxN (ps.map depth)
  | [] => rfl
  | p :: ps => by rw [depthL, depthL_max ps]; rfl
theorem knots_kids {k : Bool} {x : Str} {ps : List D} (h : wfG isStrD k (.tup (.str x :: ps)) = true) : knots (.tup (.str x :: ps)) = 1 + ((kidsD x ps).map knots).sum ∧ depth (.tup (.str x :: ps)) = 1 + maxN ((kidsD x ps).map depth) := by
  rw [← knotsL_sum, ← depthL_max]
  have e1 : knots (.tup (.str x :: ps)) = 1 + knotsL ps := by simp [knots, knotsL]
  have e2 : depth (.tup (.str x :: ps)) = 1 + depthL ps := by simp [depth, depthL]
  rw [e1, e2]
  unfold kidsD
  by_cases hx : leafW x = true
  · obtain ⟨z1, z2⟩ := flat_zero ps fun i p e => (leaf_flat h hx i p e).1
    rw [if_pos hx, z1, z2]
    exact ⟨rfl, rfl⟩
  · rw [if_neg hx]
    exact ⟨rfl, rfl⟩
structure Rz (d : D) (n : Nat) : Prop where
  wf : Wf d
  dp : depth d < n
  kn : knots d ≤ 8000000
theorem Rz.kid {n : Nat} {x : Str} {ps : List D} {i : Nat} {p : D} (h : Rz (.tup (.str x :: ps)) (n + 1)) (e : (kidsD x ps)[i]? = some p) : Rz p n := by
  obtain ⟨k, wf⟩ := h.wf
  obtain ⟨w1, w2⟩ := wf_kid wf e
  have hd := h.dp
  have hk := h.kn
  refine ⟨w1, by omega, ?_⟩
  rw [(knots_kids wf).1] at hk
  have := get_le_sum ((kidsD x ps).map knots) i
  rw [List.getElem?_map, e] at this
  have : knots p ≤ ((kidsD x ps).map knots).sum := this
  omega
end K30
end
section
set_option maxHeartbeats 2000000
namespace K30
open PySem L2 L3 KM PyProof.Rows
seal L2.PE L2.PS L2.PSs L2.PT L2.PW L2.PA L2.PG L2.PGs L2.PI L2.PC L2.PO L2.PPs L2.PK L3.PIf
variable {P : Program} {w : World} {K : PySem.W.Frag} {mg : Str → Option Value} {base : Heap} {t : Adr}
theorem leaf_in (x : Str) : inV (.str x) ((["var", "name"] : List Str).map V.str) = leafW x := by
  rw [inV_strs]
  unfold leafW
  rw [Bool.eq_iff_iff]
  simp
theorem sc_law_kids : FnScope ["_law_thing_here"] ["_law_thing_here"] (defScope s_law_kids) := ⟨rfl, rfl, rfl, by decide +kernel, rfl, by decide +kernel, by decide +kernel⟩
theorem c_law_kids (D : Df K mg "_law_kids" s_law_kids ["_law_thing_here"]) (M : Mg mg t) : Cal P w K mg CX0 "_law_kids" (1) ["_law_thing_here"] spKids := by
  refine D.ok sc_law_kids (fun vs H Q E h => ?_) (fun base f cdv A outer s H vs Q E hr h => ?_)
  · obtain ⟨x, ps, v, rfl, _⟩ := h
    rfl
  obtain ⟨x, ps, v, rfl, r, hl, q⟩ := h
  obtain ⟨a, us, rfl, ha, v0, us, rfl, ⟨rfl, hx⟩, rp⟩ := r
  have hlu := rp.length
  have ea : atI (V.str x :: us) 0 = some (.str x) := atI_nat (j := 0) rfl
  refine ⟨_, (pss_cons (ps_if (pt_cmpR op_in_seq (pe_ix ix_tup (pv 0) pe_int (fun _ _ => rfl)) (pe_tup (pa_cons pe_str (pa_cons pe_str pa_nil))) rfl) (pss_one (ps_ret (pe_lst pa_nil))) pss_nil)
      (pss_one (ps_ret (pe_callTy call_list_of rfl M.n_list bt_list (pa_cons (pe_slice sl_tupW (pv 0) (po_some pe_int) po_none) pa_nil))))), ?_⟩
  try dsimp only [cxK, cxK2]
  refine let2 ?_
  intro _ _
  refine ⟨_, rfl, a, _, _, _, rfl, rfl, SqT.of ha, ea, (by show 2 ≤ sizeLine; decide), fun p1 hp1 => ⟨p1, (["var", "name"] : List Str).map V.str, rfl, .inr (SqT.of upd_same), rfl, rfl, _, rfl, ?_⟩⟩
  have s1 := same_new hp1 (.tup [V.str "var", .str "name"])
  show if (inV (.str x) ((["var", "name"] : List Str).map V.str)) = true then _ else _
  rw [leaf_in]
  generalize upd H p1 (.tup [V.str "var", .str "name"]) = H1 at s1 ⊢
  refine ite2 (fun c => ?_) (fun c => ?_)
  · exact ⟨Nat.zero_le _, fun p hp => q p [] _ (s1.free hp) (s1.trans (same_new hp _)) upd_same (by unfold kidsD; rw [if_pos c]; exact rfl)⟩
  have nk : kidsD x ps = ps := by unfold kidsD; rw [if_neg c]
  rw [nk] at q
  have ec : cutV (V.str x :: us) (some 1) none = us := by
    have := cutV_from (V.str x :: us) 1
    simpa using this
  have h1 := s1 _ _ ha
  refine ⟨_, rfl, _, rfl, a, _, rfl, SqT.of h1, fun p hp => ?_, fun z => ?_⟩
  · rw [ec]
    refine ⟨p, us, rfl, .inr (SqT.of upd_same), fun l hl => ?_⟩
    have s2 := s1.trans ((same_new hp (.tup us)).trans (same_new hl (.lst us)))
    exact q l us _ (s1.free ((same_new hp _).free hl)) s2 upd_same (rp.mono s2)
  · rw [ec] at z
    exact absurd (congrArg List.length z) (by simp)
theorem maxN_snoc : ∀ (l : List Nat) (a : Nat), maxN (l ++ [a]) = max (maxN l) a
  | [], a => by show max a 0 = max 0 a; omega
  | b :: l, a => by
    show max b (maxN (l ++ [a])) = max (max b (maxN l)) a
    rw [maxN_snoc l a]
    omega
def spMeas (n : Nat) : Sp := fun vs H Q _ => ∃ (d : D) (v : V), vs = [v] ∧ Rep H d v ∧ Rz d n ∧ ∀ (q : Addr) (c : Int) (H' : Hp), Same H H' → -1 ≤ c → c ≤ 99 → H' q = some (.tup [.int (knots d : Nat), .int (depth d : Nat), .int c]) → Q (.ref q) H'
theorem sc_law_measured : FnScope ["_law_thing_here", "_law_knots", "_law_deep", "_law_most", "_law_kid", "_law_told_here"] ["_law_thing_here"] (defScope s_law_measured) := ⟨rfl, rfl, rfl, by decide +kernel, rfl, by decide +kernel, by decide +kernel⟩
theorem st_law_measured {n : Nat} (D : Df K mg "_law_measured" s_law_measured ["_law_thing_here"]) (M : Mg mg t) (F_law_kids : Cal P w K mg CX0 "_law_kids" (1) ["_law_thing_here"] spKids) (F_law_measured : Cal P w K mg CX0 "_law_measured" (n + 131) ["_law_thing_here"] (spMeas n)) : Cal P w K mg CX0 "_law_measured" (n + 132) ["_law_thing_here"] (spMeas (n + 1)) := by
  refine D.ok sc_law_measured (fun vs H Q E h => ?_) (fun base f cdv A outer s H vs Q E hr h => ?_)
  · obtain ⟨d, v, rfl, _⟩ := h
    rfl
  obtain ⟨d, v, rfl, r, rz, q⟩ := h
  have hh := hr.hd (by omega)
  obtain ⟨x, ps, k, rfl, wf, hps⟩ := wf_ps rz.wf
  have hk4 := kids4 wf
  obtain ⟨a, us0, rfl, ha, v0, us0, rfl, ⟨rfl, hx⟩, rp⟩ := id r
  have ea : atI (V.str x :: us0) 0 = some (.str x) := atI_nat (j := 0) rfl
  refine ⟨_, (pss_cons (ps_set (i := 1) sc_law_measured.nd rfl (by first | exact Or.inl rfl | exact Or.inr rfl) pe_int)
      (pss_cons (ps_set (i := 2) sc_law_measured.nd rfl (by first | exact Or.inl rfl | exact Or.inr rfl) pe_int)
      (pss_cons (ps_set (i := 3) sc_law_measured.nd rfl (by first | exact Or.inl rfl | exact Or.inr rfl) (pe_un un_neg pe_int))
      (pss_cut (ps_if (pt_cmpR op_eq (pe_ix ix_tup (pv 0) pe_int (fun _ _ => rfl)) pe_str (nomark _)) (pss_one (ps_set (i := 3) sc_law_measured.nd rfl (by first | exact Or.inl rfl | exact Or.inr rfl) (pe_ix ix_tup (pv 0) pe_int (fun _ _ => rfl)))) pss_nil)
      (pss_cons (ps_for PassesOwn.never rfl (pi_list (pe_fn F_law_kids (hr.mono (by omega)) rfl pass0 (pa_cons (pv 0) pa_nil))) (pg_name (i := 4) sc_law_measured.nd rfl (by first | exact Or.inl rfl | exact Or.inr rfl)) (pss_cons (ps_set (i := 5) sc_law_measured.nd rfl (by first | exact Or.inl rfl | exact Or.inr rfl) (pe_fn F_law_measured (hr.mono (by omega)) rfl pass0 (pa_cons (pv 4) pa_nil)))
      (pss_cons (ps_set (i := 1) sc_law_measured.nd rfl (by first | exact Or.inl rfl | exact Or.inr rfl) (pe_op op_add (pv 1) (pe_ix ix_tup (pv 5) pe_int (fun _ _ => rfl))))
      (pss_cons (ps_set (i := 2) sc_law_measured.nd rfl (by first | exact Or.inl rfl | exact Or.inr rfl) (pe_callB (call_max2 hh) rfl M.n_max bt_max (pa_cons (pv 2) (pa_cons (pe_ix ix_tup (pv 5) pe_int (fun _ _ => rfl)) pa_nil))))
      (pss_one (ps_set (i := 3) sc_law_measured.nd rfl (by first | exact Or.inl rfl | exact Or.inr rfl) (pe_callB (call_max2 hh) rfl M.n_max bt_max (pa_cons (pv 3) (pa_cons (pe_ix ix_tup (pv 5) pe_int (fun _ _ => rfl)) pa_nil)))))))))
      (pss_one (ps_ret (pe_tup (pa_cons (pv 1) (pa_cons (pe_op op_add (pv 2) pe_int) (pa_cons (pv 3) pa_nil))))))))))), ?_⟩
  try dsimp only [cxK, cxK2]
  refine let4 ?_
  intro _ _ _ _
  refine ⟨_, rfl, fun σ' H' => ∃ c : Int, σ' = [some (.ref a), some (.int 1), some (.int 0), some (.int c), none, none] ∧ -1 ≤ c ∧ c ≤ 99 ∧ H' = H, ?_, ?_⟩
  · refine ⟨_, rfl, a, _, _, _, rfl, rfl, SqT.of ha, ea, rfl, _, rfl, ?_⟩
    refine ite2 (fun c => ?_) (fun c => ⟨-1, rfl, by decide, by decide, rfl⟩)
    have c : V.str x = V.str "var" := of_decide_eq_true c
    cases c
    obtain ⟨sh, e1, _, e3, _, e5, _⟩ := wf_shape wf
    rw [shape_var] at e1
    cases e1
    rw [len_n] at e3 e5
    obtain ⟨p0, rfl⟩ : ∃ p0, ps = [p0] := by
      cases ps with
      | nil => simp at e5
      | cons p0 rest => cases rest with
        | nil => exact ⟨p0, rfl⟩
        | cons _ _ => simp at e5
    rw [wfL_cons, Bool.and_eq_true] at e3
    have hn : numD p0 = true := by simpa [dueB] using e3.1
    obtain ⟨i, rfl⟩ : ∃ i, p0 = .int i := by cases p0 <;> first | exact ⟨_, rfl⟩ | simp [numD] at hn
    obtain ⟨u1, us1, rfl, r1, _⟩ := rp
    cases (show u1 = V.int i from r1)
    have hi : 0 ≤ i ∧ i ≤ 99 := by simp [numD] at hn; exact hn
    exact ⟨_, rfl, a, _, _, .int i, rfl, rfl, SqT.of ha, atI_nat (j := 1) rfl, i, rfl, by omega, by omega, rfl⟩
  rintro σ' H0 ⟨c, rfl, c0, c1, rfl⟩
  refine ⟨_, rfl, x, ps, _, rfl, r, hps, fun p1 us H1 _ s1 h1 r1 => ⟨p1, rfl, ⟨us, SqL.of h1⟩, ?_⟩⟩
  have l1 := r1.length
  have hkn := knots_kids wf
  let Ifr : Nat → L2.St → Hp → Prop := (fun j σ' H' => ∃ (c : Int) (kv tv : Option V), σ' = [some (.ref a), some (.int ((1 + (((kidsD x ps).take j).map knots).sum : Nat) : Int)), some (.int (maxN (((kidsD x ps).take j).map depth) : Nat)), some (.int c), kv, tv] ∧ -1 ≤ c ∧ c ≤ 99 ∧ Same H1 H')
  refine for_by us.length Ifr ?_ ?_ ?_
  · exact ⟨c, none, none, rfl, c0, c1, Same.refl _⟩
  · rintro j σ' H2 hj ⟨c, kv, tv, rfl, c0, c1, s2⟩
    obtain ⟨dj, hdj⟩ : ∃ dj, (kidsD x ps)[j]? = some dj := ⟨_, List.getElem?_eq_getElem (by omega)⟩
    obtain ⟨uj, huj, ruj⟩ := r1.get hdj
    refine ⟨⟨us, uj, SqL.of (s2 _ _ h1), huj⟩, ?_⟩
    rintro x' H3 ⟨rfl, hy⟩
    have hy := hy us (SqL.of (s2 _ _ h1))
    rw [huj] at hy
    cases hy
    refine ⟨_, rfl, dj, uj, rfl, ruj.mono s2, rz.kid hdj, fun q3 c3 H4 s4 b0 b1 h4 => ?_⟩
    have hT := SqT.of (K := K) h4
    refine ⟨_, rfl, _, rfl, q3, _, _, _, rfl, rfl, hT, atI_nat (j := 0) rfl, _, _, rfl, rfl, ?_⟩
    refine ⟨_, rfl, _, rfl, q3, _, _, _, rfl, rfl, hT, atI_nat (j := 1) rfl, _, _, rfl, ?_⟩
    refine ⟨_, rfl, _, rfl, q3, _, _, _, rfl, rfl, hT, atI_nat (j := 2) rfl, _, _, rfl, ?_⟩
    refine ⟨if c3 > c then c3 else c, some uj, some (.ref q3), ?_, ?_, ?_, s2.trans s4⟩
    rotate_left
    · show -1 ≤ (if c3 > c then c3 else c)
      split <;> omega
    · show (if c3 > c then c3 else c) ≤ 99
      split <;> omega
    · rw [take_snoc hdj, List.map_append, List.map_append, List.sum_append, List.map_singleton, List.map_singleton, maxN_snoc, List.sum_singleton]
      have e1 : ((1 + (((kidsD x ps).take j).map knots).sum : Nat) : Int) + ((knots dj : Nat) : Int) = ((1 + ((((kidsD x ps).take j).map knots).sum + knots dj) : Nat) : Int) := by omega
      have e2 : (if ((depth dj : Nat) : Int) > ((maxN (((kidsD x ps).take j).map depth) : Nat) : Int) then ((depth dj : Nat) : Int) else ((maxN (((kidsD x ps).take j).map depth) : Nat) : Int)) = ((max (maxN (((kidsD x ps).take j).map depth)) (depth dj) : Nat) : Int) := by
        split <;> omega
      rw [← e1, ← e2]
      rfl
  · rintro σ' H2 ⟨c, kv, tv, rfl, c0, c1, s2⟩
    refine ⟨⟨us, SqL.of (s2 _ _ h1), Nat.le_refl _⟩, ?_⟩
    refine ⟨_, rfl, _, rfl, _, _, rfl, rfl, _, rfl, (by show 3 ≤ sizeLine; decide), fun q4 hq4 => ?_⟩
    refine q q4 c _ (s1.trans (s2.trans (same_new hq4 _))) c0 c1 ?_
    rw [hkn.1, hkn.2]
    rw [l1, List.take_length]
    have e2 : ((maxN ((kidsD x ps).map depth) : Nat) : Int) + 1 = ((1 + maxN ((kidsD x ps).map depth) : Nat) : Int) := by omega
    rw [← e2]
    exact upd_same
theorem c_law_measured (D : Df K mg "_law_measured" s_law_measured ["_law_thing_here"]) (M : Mg mg t) (F_law_kids : Cal P w K mg CX0 "_law_kids" (1) ["_law_thing_here"] spKids) : ∀ n : Nat, Cal P w K mg CX0 "_law_measured" (n + 131) ["_law_thing_here"] (spMeas n)
  | 0 => Cal.never D fun vs H Q E ⟨d, v, _, _, h, _⟩ => absurd h.dp (Nat.not_lt_zero _)
  | n + 1 => st_law_measured D M F_law_kids (c_law_measured D M F_law_kids n)
def spGreat (n : Nat) : Sp := fun vs H Q _ => ∃ (d : D) (v : V), vs = [v] ∧ Rep H d v ∧ Rz d n ∧ ∀ H', Same H H' → Q (.bl (vastD d)) H'
theorem sc_law_great : FnScope ["_law_thing_here", "_law_told_here"] ["_law_thing_here"] (defScope s_law_great) := ⟨rfl, rfl, rfl, by decide +kernel, rfl, by decide +kernel, by decide +kernel⟩
theorem c_law_great {n : Nat} (D : Df K mg "_law_great" s_law_great ["_law_thing_here"]) (M : Mg mg t) (F_law_measured : Cal P w K mg CX0 "_law_measured" (n + 131) ["_law_thing_here"] (spMeas n)) : Cal P w K mg CX0 "_law_great" (n + 132) ["_law_thing_here"] (spGreat n) := by
  refine D.ok sc_law_great (fun vs H Q E h => ?_) (fun base f cdv A outer s H vs Q E hr h => ?_)
  · obtain ⟨d, v, rfl, _⟩ := h
    rfl
  obtain ⟨d, v, rfl, r, rz, q⟩ := h
  refine ⟨_, (pss_cons (ps_set (i := 1) sc_law_great.nd rfl (by first | exact Or.inl rfl | exact Or.inr rfl) (pe_fn F_law_measured (hr.mono (by omega)) rfl pass0 (pa_cons (pv 0) pa_nil)))
      (pss_one (ps_ret (pe_or (pe_cmpR op_gt (pe_ix ix_tup (pv 1) pe_int (fun _ _ => rfl)) pe_int (nomark _)) (pe_or (pe_cmpR op_gt (pe_ix ix_tup (pv 1) pe_int (fun _ _ => rfl)) pe_int (nomark _)) (pe_one (pe_cmpR op_gt (pe_ix ix_tup (pv 1) pe_int (fun _ _ => rfl)) pe_int (nomark _)))))))), ?_⟩
  try dsimp only [cxK, cxK2]
  refine let2 ?_
  intro _ _
  refine ⟨_, rfl, d, v, rfl, r, rz, fun q3 c3 H1 s1 b0 b1 h1 => ?_⟩
  have hT := SqT.of (K := K) h1
  refine ⟨_, rfl, q3, _, _, _, rfl, rfl, hT, atI_nat (j := 0) rfl, _, _, rfl, rfl, _, rfl, ?_⟩
  have qq := q H1 s1
  refine ite2 (fun c => ?_) (fun c => ?_)
  · have c : (600 : Int) < ((knots d : Nat) : Int) := of_decide_eq_true c
    have e : vastD d = true := by unfold vastD; simp; omega
    rw [e] at qq
    exact qq
  have c : ¬ (600 : Int) < ((knots d : Nat) : Int) := of_decide_eq_false (Bool.eq_false_iff.mpr c)
  refine ⟨_, rfl, q3, _, _, _, rfl, rfl, hT, atI_nat (j := 1) rfl, _, _, rfl, rfl, _, rfl, ?_⟩
  refine ite2 (fun c2 => ?_) (fun c2 => ?_)
  · have c2 : (40 : Int) < ((depth d : Nat) : Int) := of_decide_eq_true c2
    have e : vastD d = true := by unfold vastD; simp; omega
    rw [e] at qq
    exact qq
  have c2 : ¬ (40 : Int) < ((depth d : Nat) : Int) := of_decide_eq_false (Bool.eq_false_iff.mpr c2)
  have e : vastD d = false := by unfold vastD; simp; omega
  rw [e] at qq
  refine ⟨_, rfl, q3, _, _, _, rfl, rfl, hT, atI_nat (j := 2) rfl, _, _, rfl, rfl, ?_⟩
  have e2 : decide ((99 : Int) < c3) = false := decide_eq_false (by omega)
  show Q (.bl (decide ((99 : Int) < c3))) H1
  rw [e2]
  exact qq
end K30
end
section
set_option maxHeartbeats 2000000
namespace K30
open PySem L2 L3 KM PyProof.Rows
seal L2.PE L2.PS L2.PSs L2.PT L2.PW L2.PA L2.PG L2.PGs L2.PI L2.PC L2.PO L2.PPs L2.PK L3.PIf
variable {P : Program} {w : World} {K : PySem.W.Frag} {mg : Str → Option Value} {base : Heap} {t : Adr}
def BkV (H : Hp) (v : V) : Prop := ∃ (q : Addr) (dk dt : D) (vk vt : V), v = .ref q ∧ H q = some (.tup [vk, vt]) ∧ Rep H dk vk ∧ wfG isStrD true dk = true ∧ Rep H dt vt ∧ wfG isStrD false dt = true ∧ depth dk ≤ 16 ∧ depth dt ≤ 16 ∧ knots dk ≤ 300000 ∧ knots dt ≤ 300000
structure Bk (H : Hp) (kvs : List (Key × V)) : Prop where
  len : kvs.length ≤ 1000
  each : ∀ k v, (k, v) ∈ kvs → BkV H v
theorem not_tup_list {H : Hp} {p : Addr} {xs : List V} (h : H p = some (.lst xs)) : ∀ vs, H p ≠ some (.tup vs) := fun vs z => by rw [h] at z; cases z
end K30
end
section
set_option maxHeartbeats 2000000
namespace K30
open PySem L2 L3 KM PyProof.Rows
seal L2.PE L2.PS L2.PSs L2.PT L2.PW L2.PA L2.PG L2.PGs L2.PI L2.PC L2.PO L2.PPs L2.PK L3.PIf
variable {P : Program} {w : World} {K : PySem.W.Frag} {mg : Str → Option Value} {base : Heap} {t : Adr}
def hdD : D → Str
  | .tup (.str x :: _) => x
  | _ => ""
def nameB (inb : Str → Bool) : D → V
  | .str y => if inb y = true then .str "name" else .non
  | _ => .non
def ruleW (inb : Str → Bool) (x : Str) (ps : List D) : V :=
  if x = "name" then nameB inb ((ps[0]?).getD .non)
  else if x = "app" then (if hdD ((ps[0]?).getD .non) = "fun" then .str "fun" else .non)
  else if x = "carry" then (if hdD ((ps[2]?).getD .non) = "like" then .str "like" else .non)
  else if x = "first" then (if hdD ((ps[0]?).getD .non) = "pair" then .str "first" else .non)
  else if x = "second" then (if hdD ((ps[0]?).getD .non) = "pair" then .str "second" else .non)
  else if x = "rec" then (if hdD ((ps[3]?).getD .non) = "zero" then .str "zero" else if hdD ((ps[3]?).getD .non) = "next" then .str "next" else .non)
  else .non
def ruleD (inb : Str → Bool) : D → V
  | .tup (.str x :: ps) => ruleW inb x ps
  | _ => .non
theorem wfL_get {nm : D → Bool} : ∀ {cs : List Nat} {ps : List D} {i c : Nat}, wfL nm cs ps = true → cs[i]? = some c → ∃ p, ps[i]? = some p ∧ dueB nm c p = true
  | [], [], _, _, _, e => by simp at e
  | [], _ :: _, _, _, h, _ => by simp [wfL] at h
  | _ :: _, [], _, _, h, _ => by simp [wfL] at h
  | a :: cs, p :: ps, 0, c, h, e => by
    simp at e
    subst e
    rw [wfL_cons, Bool.and_eq_true] at h
    exact ⟨p, rfl, h.1⟩
  | a :: cs, p :: ps, i + 1, c, h, e => by
    rw [wfL_cons, Bool.and_eq_true] at h
    obtain ⟨c, h1, h2⟩ := wfL_get (i := i) h.2 (by simpa using e)
    exact ⟨c, by simpa using h1, h2⟩
theorem part_of {k : Bool} {x s : Str} {ps : List D} (h : wfG isStrD k (.tup (.str x :: ps)) = true) (hs : shapeV x = .str s) {i : Nat} (hi : s.cps.toList[i]? = some 116) : ∃ p, ps[i]? = some p ∧ wfG isStrD false p = true := by
  obtain ⟨s', e1, _, e3, _⟩ := wf_shape h
  rw [hs] at e1
  cases e1
  obtain ⟨p, h1, h2⟩ := wfL_get e3 hi
  exact ⟨p, h1, by simpa [dueB] using h2⟩
theorem hd_rep {H : Hp} {k : Bool} {p : D} {u : V} (h : wfG isStrD k p = true) (r : Rep H p u) : ∃ (c : Addr) (us : List V), u = .ref c ∧ H c = some (.tup (.str (hdD p) :: us)) := by
  obtain ⟨x, ps, rfl⟩ := wf_form h
  obtain ⟨c, vs, rfl, hc, v0, us, rfl, ⟨rfl, _⟩, _⟩ := r
  exact ⟨c, us, rfl, hc⟩
theorem part_rep {H : Hp} {k : Bool} {x s : Str} {ps : List D} {us : List V} (h : wfG isStrD k (.tup (.str x :: ps)) = true) (r : Reps H ps us) (hs : shapeV x = .str s) {i : Nat} (hi : s.cps.toList[i]? = some 116) :
    ∃ (c : Addr) (ws : List V), atI (V.str x :: us) ((i + 1 : Nat) : Int) = some (.ref c) ∧ H c = some (.tup (.str (hdD ((ps[i]?).getD .non)) :: ws)) := by
  obtain ⟨p, h1, h2⟩ := part_of h hs hi
  obtain ⟨u, hu, ru⟩ := r.get h1
  obtain ⟨c, ws, rfl, hc⟩ := hd_rep h2 ru
  refine ⟨c, ws, atI_nat (by simpa using hu), ?_⟩
  rw [h1]
  exact hc
def inB (kvs : List (Key × V)) (x : Str) : Bool := (valV kvs (Sum.inr x : Key)).isSome
def spRule : Sp := fun vs H Q _ => ∃ (d : D) (v : V) (b : Addr) (kvs : List (Key × V)), vs = [v, .ref b] ∧ Rep H d v ∧ Wf d ∧ H b = some (.dK kvs) ∧ ∀ H', Same H H' → Q (ruleD (inB kvs) d) H'
theorem name_part {k : Bool} {ps : List D} (h : wfG isStrD k (.tup (.str "name" :: ps)) = true) : ∃ y, ps = [.str y] := by
  obtain ⟨s', e1, _, e3, _⟩ := wf_shape h
  rw [shape_name] at e1
  cases e1
  rw [len_w] at e3
  match ps, e3 with
  | [], e3 => simp [wfL] at e3
  | [p], e3 =>
    rw [wfL_cons, Bool.and_eq_true] at e3
    have : isStrD p = true := by simpa [dueB] using e3.1
    cases p with
    | str y => exact ⟨y, rfl⟩
    | _ => simp [isStrD] at this
  | p :: q :: r, e3 =>
    rw [wfL_cons, Bool.and_eq_true] at e3
    have := e3.2
    simp [wfL] at this
theorem val4 (v1 v2 v3 v4 : V) (x : Str) : valV [((Sum.inr "app" : Key), v1), (Sum.inr "carry", v2), (Sum.inr "first", v3), (Sum.inr "second", v4)] (Sum.inr x : Key) = if x = "app" then some v1 else if x = "carry" then some v2 else if x = "first" then some v3 else if x = "second" then some v4 else none := by
  have inj : ∀ y : Str, (Sum.inr y : Key) = Sum.inr x ↔ x = y := fun y => ⟨fun z => by cases z; rfl, fun z => by rw [z]⟩
  by_cases h1 : x = "app"
  · rw [if_pos h1, valV_pos ((inj _).mpr h1)]
  rw [if_neg h1, valV_neg (fun z => h1 ((inj _).mp z))]
  by_cases h2 : x = "carry"
  · rw [if_pos h2, valV_pos ((inj _).mpr h2)]
  rw [if_neg h2, valV_neg (fun z => h2 ((inj _).mp z))]
  by_cases h3 : x = "first"
  · rw [if_pos h3, valV_pos ((inj _).mpr h3)]
  rw [if_neg h3, valV_neg (fun z => h3 ((inj _).mp z))]
  by_cases h4 : x = "second"
  · rw [if_pos h4, valV_pos ((inj _).mpr h4)]
  rw [if_neg h4, valV_neg (fun z => h4 ((inj _).mp z))]
  rfl
theorem merge4 (v1 v2 v3 v4 : V) : mergeK [] [((Sum.inr "app" : Key), v1), (Sum.inr "carry", v2), (Sum.inr "first", v3), (Sum.inr "second", v4)] = [((Sum.inr "app" : Key), v1), (Sum.inr "carry", v2), (Sum.inr "first", v3), (Sum.inr "second", v4)] := by
  rfl
theorem sc_law_rule : FnScope ["_law_thing_here", "_law_book_here", "_law_word", "_law_heads"] ["_law_thing_here", "_law_book_here"] (defScope s_law_rule) := ⟨rfl, rfl, rfl, by decide +kernel, rfl, by decide +kernel, by decide +kernel⟩
theorem c_law_rule (D : Df K mg "_law_rule" s_law_rule ["_law_thing_here", "_law_book_here"]) (M : Mg mg t) : Cal P w K mg CX0 "_law_rule" (1) ["_law_thing_here", "_law_book_here"] spRule := by
  refine D.ok sc_law_rule (fun vs H Q E h => ?_) (fun base f cdv A outer s H vs Q E hr h => ?_)
  · obtain ⟨d, v, b, kvs, rfl, _⟩ := h
    rfl
  obtain ⟨d, v, b, kvs, rfl, r, wf, hb, q⟩ := h
  have hu := hu_of hr
  obtain ⟨x, ps, k, rfl, wfk, hps⟩ := wf_ps wf
  obtain ⟨a, us0, rfl, ha, v0, us, rfl, ⟨rfl, hx⟩, rp⟩ := id r
  have ea : atI (V.str x :: us) 0 = some (.str x) := atI_nat (j := 0) rfl
  refine ⟨_, (pss_cons (ps_set (i := 2) sc_law_rule.nd rfl (by first | exact Or.inl rfl | exact Or.inr rfl) (pe_ix ix_tup (pv 0) pe_int (fun _ _ => rfl)))
      (pss_cons (ps_if (pt_cmpR op_eq (pv 2) pe_str (nomark _)) (pss_one (ps_ret (pe_ix ix_list (pe_lst (pa_cons pe_str (pa_cons pe_non pa_nil))) (pe_callTy call_int1 rfl M.n_int bt_int (pa_cons (pe_cmp (pc_dnotin hu (pe_ix ix_tup (pv 0) pe_int (fun _ _ => rfl)) (pv 1))) pa_nil)) (fun _ _ => rfl)))) pss_nil)
      (pss_cons (ps_set (i := 3) sc_law_rule.nd rfl (by first | exact Or.inl rfl | exact Or.inr rfl) (pe_disp (pps_cons pe_str (pe_tup (pa_cons pe_int (pa_cons pe_str pa_nil))) (pps_cons pe_str (pe_tup (pa_cons pe_int (pa_cons pe_str pa_nil))) (pps_cons pe_str (pe_tup (pa_cons pe_int (pa_cons pe_str pa_nil))) (pps_cons pe_str (pe_tup (pa_cons pe_int (pa_cons pe_str pa_nil))) pps_nil)))) rfl rfl (by simp) (by decide)))
      (pss_cut (ps_if (L2.PW.pt (pw_and (pt_cmp (pc_din hu (pv 2) (pv 3))) (pw_and1 (pt_cmpR op_eq (pe_ix ix_tup (pe_ix ix_tup (pv 0) (pe_ix ix_tup (pe_dget hu (pv 3) (pv 2) (fun _ _ => rfl)) pe_int (fun _ _ => rfl)) (fun _ _ => rfl)) pe_int (fun _ _ => rfl)) (pe_ix ix_tup (pe_dget hu (pv 3) (pv 2) (fun _ _ => rfl)) pe_int (fun _ _ => rfl)) (nomark _))))) (pss_one (ps_ret (pe_dget hu (pe_disp (pps_cons pe_str pe_str (pps_cons pe_str pe_str (pps_cons pe_str pe_str (pps_cons pe_str pe_str pps_nil)))) rfl rfl (by simp) (by decide)) (pv 2) (fun _ _ => rfl)))) pss_nil)
      (pss_cons (ps_if (L2.PW.pt (pw_and (pt_cmpR op_eq (pv 2) pe_str (nomark _)) (pw_and1 (pt_cmpR op_in_seq (pe_ix ix_tup (pe_ix ix_tup (pv 0) pe_int (fun _ _ => rfl)) pe_int (fun _ _ => rfl)) (pe_tup (pa_cons pe_str (pa_cons pe_str pa_nil))) rfl)))) (pss_one (ps_ret (pe_ix ix_tup (pe_ix ix_tup (pv 0) pe_int (fun _ _ => rfl)) pe_int (fun _ _ => rfl)))) pss_nil)
      (pss_one (ps_ret pe_non))))))), ?_⟩
  try dsimp only [cxK, cxK2]
  refine let4 ?_
  intro _ _ _ _
  refine ⟨_, rfl, a, _, _, _, rfl, rfl, SqT.of ha, ea, ?_⟩
  refine ⟨_, rfl, rfl, _, rfl, ?_⟩
  refine ite2 (fun c => ?_) (fun c => ?_)
  · have c : V.str x = V.str "name" := of_decide_eq_true c
    cases c
    obtain ⟨y, rfl⟩ := name_part wfk
    obtain ⟨u, us', rfl, ⟨rfl, _⟩, ru⟩ := rp
    cases (show us' = [] from ru)
    have eq1 : ruleD (inB kvs) (.tup [.str "name", .str y]) = if inB kvs y = true then .str "name" else .non := rfl
    rw [eq1] at q
    refine ⟨(by show 2 ≤ sizeLine; decide), fun p1 hp1 => ?_⟩
    have s1 := same_new hp1 (.lst [V.str "name", .non])
    refine ⟨_, rfl, a, _, _, .str y, rfl, rfl, SqT.of (s1 _ _ ha), atI_nat (j := 1) rfl, _, rfl, b, _, rfl, DGet.k (k := Sum.inr y) (s1 _ _ hb), .inr ⟨_, rfl, ?_⟩⟩
    have qq := q _ s1
    show rIxL _ (.ref p1) (V.int (if (!inB kvs y) = true then 1 else 0)) _ _
    cases hin : inB kvs y with
    | true =>
      rw [hin] at qq
      exact ⟨p1, _, _, .str "name", rfl, rfl, SqL.of upd_same, rfl, qq⟩
    | false =>
      rw [hin] at qq
      exact ⟨p1, _, _, .non, rfl, rfl, SqL.of upd_same, rfl, qq⟩
  have nn : x ≠ "name" := fun z => c (by rw [z]; decide +kernel)
  have two : 2 ≤ sizeLine := by decide
  intro p1 hp1
  have s1 := same_new hp1 (.dK [])
  refine ⟨two, fun q1 e1 => ⟨two, fun q2 e2 => ⟨two, fun q3 e3 => ⟨two, fun q4 e4 => ?_⟩⟩⟩⟩
  have t1 := same_new e1 (.tup [V.int 1, .str "fun"])
  have t2 := same_new e2 (.tup [V.int 3, .str "like"])
  have t3 := same_new e3 (.tup [V.int 1, .str "pair"])
  have t4 := same_new e4 (.tup [V.int 1, .str "pair"])
  have hp : (upd H p1 (.dK [])) p1 = some (.dK []) := upd_same
  refine ⟨t4 _ _ (t3 _ _ (t2 _ _ (t1 _ _ hp))), [(Sum.inr "app", .ref q1), (Sum.inr "carry", .ref q2), (Sum.inr "first", .ref q3), (Sum.inr "second", .ref q4)], rfl, (by show 4 ≤ 15; decide), ?_⟩
  rw [merge4]
  have s5 : Same H (upd (upd (upd (upd (upd (upd H p1 (.dK [])) q1 (.tup [V.int 1, .str "fun"])) q2 (.tup [V.int 3, .str "like"])) q3 (.tup [V.int 1, .str "pair"])) q4 (.tup [V.int 1, .str "pair"])) p1 (.dK [(Sum.inr "app", .ref q1), (Sum.inr "carry", .ref q2), (Sum.inr "first", .ref q3), (Sum.inr "second", .ref q4)])) := same_upd (s1.trans (t1.trans (t2.trans (t3.trans t4)))) hp1
  have n1 : q1 ≠ p1 := fun z => by rw [z, hp] at e1; cases e1
  have n2 : q2 ≠ p1 := fun z => by rw [z, t1 _ _ hp] at e2; cases e2
  have n3 : q3 ≠ p1 := fun z => by rw [z, t2 _ _ (t1 _ _ hp)] at e3; cases e3
  have n4 : q4 ≠ p1 := fun z => by rw [z, t3 _ _ (t2 _ _ (t1 _ _ hp))] at e4; cases e4
  have h5 : (upd (upd (upd (upd (upd (upd H p1 (.dK [])) q1 (.tup [V.int 1, .str "fun"])) q2 (.tup [V.int 3, .str "like"])) q3 (.tup [V.int 1, .str "pair"])) q4 (.tup [V.int 1, .str "pair"])) p1 (.dK [(Sum.inr "app", .ref q1), (Sum.inr "carry", .ref q2), (Sum.inr "first", .ref q3), (Sum.inr "second", .ref q4)])) p1 = some (.dK [(Sum.inr "app", .ref q1), (Sum.inr "carry", .ref q2), (Sum.inr "first", .ref q3), (Sum.inr "second", .ref q4)]) := upd_same
  have f1 : (upd (upd (upd (upd (upd (upd H p1 (.dK [])) q1 (.tup [V.int 1, .str "fun"])) q2 (.tup [V.int 3, .str "like"])) q3 (.tup [V.int 1, .str "pair"])) q4 (.tup [V.int 1, .str "pair"])) p1 (.dK [(Sum.inr "app", .ref q1), (Sum.inr "carry", .ref q2), (Sum.inr "first", .ref q3), (Sum.inr "second", .ref q4)])) q1 = some (.tup [V.int 1, .str "fun"]) := by rw [upd_ne n1]; exact t4 _ _ (t3 _ _ (t2 _ _ upd_same))
  have f2 : (upd (upd (upd (upd (upd (upd H p1 (.dK [])) q1 (.tup [V.int 1, .str "fun"])) q2 (.tup [V.int 3, .str "like"])) q3 (.tup [V.int 1, .str "pair"])) q4 (.tup [V.int 1, .str "pair"])) p1 (.dK [(Sum.inr "app", .ref q1), (Sum.inr "carry", .ref q2), (Sum.inr "first", .ref q3), (Sum.inr "second", .ref q4)])) q2 = some (.tup [V.int 3, .str "like"]) := by rw [upd_ne n2]; exact t4 _ _ (t3 _ _ upd_same)
  have f3 : (upd (upd (upd (upd (upd (upd H p1 (.dK [])) q1 (.tup [V.int 1, .str "fun"])) q2 (.tup [V.int 3, .str "like"])) q3 (.tup [V.int 1, .str "pair"])) q4 (.tup [V.int 1, .str "pair"])) p1 (.dK [(Sum.inr "app", .ref q1), (Sum.inr "carry", .ref q2), (Sum.inr "first", .ref q3), (Sum.inr "second", .ref q4)])) q3 = some (.tup [V.int 1, .str "pair"]) := by rw [upd_ne n3]; exact t4 _ _ upd_same
  have f4 : (upd (upd (upd (upd (upd (upd H p1 (.dK [])) q1 (.tup [V.int 1, .str "fun"])) q2 (.tup [V.int 3, .str "like"])) q3 (.tup [V.int 1, .str "pair"])) q4 (.tup [V.int 1, .str "pair"])) p1 (.dK [(Sum.inr "app", .ref q1), (Sum.inr "carry", .ref q2), (Sum.inr "first", .ref q3), (Sum.inr "second", .ref q4)])) q4 = some (.tup [V.int 1, .str "pair"]) := by rw [upd_ne n4]; exact upd_same
  generalize upd (upd (upd (upd (upd (upd H p1 (.dK [])) q1 (.tup [V.int 1, .str "fun"])) q2 (.tup [V.int 3, .str "like"])) q3 (.tup [V.int 1, .str "pair"])) q4 (.tup [V.int 1, .str "pair"])) p1 (.dK [(Sum.inr "app", .ref q1), (Sum.inr "carry", .ref q2), (Sum.inr "first", .ref q3), (Sum.inr "second", .ref q4)]) = H5 at s5 h5 f1 f2 f3 f4 ⊢
  clear t1 t2 t3 t4 s1 hp hp1 e1 e2 e3 e4
  have ha5 := s5 _ _ ha
  have rp5 := rp.mono s5
  -- one of the four
  have key : (valV [((Sum.inr "app" : Key), V.ref q1), (Sum.inr "carry", .ref q2), (Sum.inr "first", .ref q3), (Sum.inr "second", .ref q4)] (Sum.inr x : Key) = none ∧ ruleW (inB kvs) x ps = (if x = "rec" then (if hdD ((ps[3]?).getD .non) = "zero" then .str "zero" else if hdD ((ps[3]?).getD .non) = "next" then .str "next" else .non) else .non)) ∨
      ∃ (qq : Addr) (j : Nat) (y z s' : Str), valV [((Sum.inr "app" : Key), V.ref q1), (Sum.inr "carry", .ref q2), (Sum.inr "first", .ref q3), (Sum.inr "second", .ref q4)] (Sum.inr x : Key) = some (.ref qq) ∧ H5 qq = some (.tup [.int ((j + 1 : Nat) : Int), .str y]) ∧ shapeV x = .str s' ∧ s'.cps.toList[j]? = some 116 ∧
        valV [((Sum.inr "app" : Key), V.str "fun"), (Sum.inr "carry", .str "like"), (Sum.inr "first", .str "first"), (Sum.inr "second", .str "second")] (Sum.inr x : Key) = some (.str z) ∧ ruleW (inB kvs) x ps = (if hdD ((ps[j]?).getD .non) = y then .str z else .non) ∧ x ≠ "rec" := by
    rw [val4, val4]
    unfold ruleW
    rw [if_neg nn]
    by_cases h1 : x = "app"
    · subst h1
      exact .inr ⟨q1, 0, "fun", "fun", "tt", by simp, f1, by decide +kernel, by decide +kernel, by simp, by simp, by decide +kernel⟩
    by_cases h2 : x = "carry"
    · subst h2
      exact .inr ⟨q2, 2, "like", "like", "ktt", by simp [h1], f2, by decide +kernel, by decide +kernel, by simp [h1], by simp [h1], by decide +kernel⟩
    by_cases h3 : x = "first"
    · subst h3
      exact .inr ⟨q3, 0, "pair", "first", "t", by simp [h1, h2], f3, by decide +kernel, by decide +kernel, by simp [h1, h2], by simp [h1, h2], by decide +kernel⟩
    by_cases h4 : x = "second"
    · subst h4
      exact .inr ⟨q4, 0, "pair", "second", "t", by simp [h1, h2, h3], f4, by decide +kernel, by decide +kernel, by simp [h1, h2, h3], by simp [h1, h2, h3], by decide +kernel⟩
    · exact .inl ⟨by simp [h1, h2, h3, h4], by simp [h1, h2, h3, h4]⟩
  refine ⟨fun σ' H' => σ' = [some (.ref a), some (.ref b), some (.str x), some (.ref p1)] ∧ H' = H5 ∧ ruleW (inB kvs) x ps = (if x = "rec" then (if hdD ((ps[3]?).getD .non) = "zero" then .str "zero" else if hdD ((ps[3]?).getD .non) = "next" then .str "next" else .non) else .non), ?_, ?_⟩
  · refine ⟨_, rfl, _, rfl, p1, _, rfl, DGet.k (k := Sum.inr x) h5, _, rfl, ?_⟩
    rcases key with ⟨kn, kr⟩ | ⟨qq, j, y, z, s', kv, kq, ks, ki, kz, kr, kx⟩
    · rw [kn]
      exact iteF (iteF ⟨rfl, rfl, kr⟩)
    rw [kv]
    obtain ⟨c0, ws, hat, hc0⟩ := part_rep wfk rp5 ks ki
    refine iteT ⟨_, rfl, _, rfl, _, rfl, p1, _, rfl, kv ▸ DGet.k (k := Sum.inr x) h5, qq, _, _, _, rfl, rfl, SqT.of kq, atI_nat (j := 0) rfl, a, _, _, .ref c0, rfl, rfl, SqT.of ha5, hat, c0, _, _, _, rfl, rfl, SqT.of hc0, atI_nat (j := 0) rfl, _, rfl, _, rfl, p1, _, rfl, kv ▸ DGet.k (k := Sum.inr x) h5, qq, _, _, _, rfl, rfl, SqT.of kq, atI_nat (j := 1) rfl, rfl, _, rfl, ?_⟩
    refine ite2 (fun ch => ?_) (fun ch => ?_)
    · have ch : V.str (hdD ((ps[j]?).getD .non)) = V.str y := of_decide_eq_true ch
      injection ch with ch
      intro p6 hp6
      have s6 := same_new hp6 (.dK [((Sum.inr "app" : Key), V.str "fun"), (Sum.inr "carry", .str "like"), (Sum.inr "first", .str "first"), (Sum.inr "second", .str "second")])
      refine ⟨upd_same, [((Sum.inr "app" : Key), V.str "fun"), (Sum.inr "carry", .str "like"), (Sum.inr "first", .str "first"), (Sum.inr "second", .str "second")], rfl, (by show 4 ≤ 15; decide), ?_⟩
      rw [merge4, upd_upd]
      refine ⟨_, rfl, p6, .str z, rfl, kz ▸ DGet.k (k := Sum.inr x) upd_same, ?_⟩
      have qq2 := q _ (s5.trans s6)
      have er : ruleD (inB kvs) (.tup (.str x :: ps)) = .str z := by
        show ruleW (inB kvs) x ps = _
        rw [kr, if_pos ch]
      rw [er] at qq2
      exact qq2
    · have ch : ¬ hdD ((ps[j]?).getD .non) = y := fun z => ch (by rw [z]; exact decide_eq_true rfl)
      refine ⟨rfl, rfl, ?_⟩
      rw [kr, if_neg ch, if_neg kx]
  · rintro σ' H' ⟨rfl, rfl, kr⟩
    refine ⟨_, rfl, rfl, _, rfl, ?_⟩
    refine ite2 (fun cr => ?_) (fun cr => ?_)
    · have cr : V.str x = V.str "rec" := of_decide_eq_true cr
      cases cr
      rw [if_pos rfl] at kr
      obtain ⟨c0, ws, hat, hc0⟩ := part_rep (s := "kttt") (i := 3) wfk rp5 (by decide +kernel) (by decide +kernel)
      refine ⟨_, rfl, a, _, _, .ref c0, rfl, rfl, SqT.of ha5, hat, c0, _, _, _, rfl, rfl, SqT.of hc0, atI_nat (j := 0) rfl, (by show 2 ≤ sizeLine; decide), fun p6 hp6 => ⟨p6, (["zero", "next"] : List Str).map V.str, rfl, .inr (SqT.of upd_same), rfl, rfl, _, rfl, ?_⟩⟩
      have s6 := same_new hp6 (.tup [V.str "zero", .str "next"])
      show if (inV (.str (hdD ((ps[3]?).getD .non))) ((["zero", "next"] : List Str).map V.str)) = true then _ else _
      rw [inV_strs]
      have qq2 := q _ (s5.trans s6)
      have er : ruleD (inB kvs) (.tup (.str "rec" :: ps)) = _ := kr
      rw [er] at qq2
      refine ite2 (fun ci => ?_) (fun ci => ?_)
      · have ci : hdD ((ps[3]?).getD .non) ∈ (["zero", "next"] : List Str) := of_decide_eq_true ci
        refine ⟨_, rfl, a, _, _, .ref c0, rfl, rfl, SqT.of (s6 _ _ ha5), hat, c0, _, _, _, rfl, rfl, SqT.of (s6 _ _ hc0), atI_nat (j := 0) rfl, ?_⟩
        simp only [List.mem_cons, List.not_mem_nil, or_false] at ci
        rcases ci with ci | ci
        · rw [ci, if_pos rfl] at qq2
          rw [ci]
          exact qq2
        · rw [ci, if_neg (by decide +kernel), if_pos rfl] at qq2
          rw [ci]
          exact qq2
      · have ci : ¬ hdD ((ps[3]?).getD .non) ∈ (["zero", "next"] : List Str) := of_decide_eq_false (Bool.eq_false_iff.mpr ci)
        simp only [List.mem_cons, List.not_mem_nil, or_false, not_or] at ci
        rw [if_neg ci.1, if_neg ci.2] at qq2
        exact qq2
    · have cr : x ≠ "rec" := fun z => cr (by rw [z]; decide +kernel)
      rw [if_neg cr] at kr
      have qq2 := q _ s5
      have er : ruleD (inB kvs) (.tup (.str x :: ps)) = _ := kr
      rw [er] at qq2
      exact iteF qq2
end K30
end
section
set_option maxHeartbeats 2000000
namespace K30
open PySem L2 L3 KM PyProof.Rows
seal L2.PE L2.PS L2.PSs L2.PT L2.PW L2.PA L2.PG L2.PGs L2.PI L2.PC L2.PO L2.PPs L2.PK L3.PIf
variable {P : Program} {w : World} {K : PySem.W.Frag} {mg : Str → Option Value} {base : Heap} {t : Adr}
abbrev Rp := List Nat × D
mutual
def rowsD (pl : List Nat) : D → List Rp
  | .tup (.str x :: ps) => (pl, .tup (.str x :: ps)) :: (if leafW x = true then [] else rowsL pl 0 ps)
  | _ => []
def rowsL (pl : List Nat) : Nat → List D → List Rp
  | _, [] => []
  | i, d :: ds => rowsD (pl ++ [i]) d ++ rowsL pl (i + 1) ds
end
theorem rowsD_eq (pl : List Nat) (x : Str) (ps : List D) : rowsD pl (.tup (.str x :: ps)) = (pl, .tup (.str x :: ps)) :: rowsL pl 0 (kidsD x ps) := by
  rw [rowsD]
  unfold kidsD
  split
  · rw [rowsL]
  · rfl
theorem rowsL_range (pl : List Nat) : ∀ (ds : List D) (j : Nat), rowsL pl j ds = ((List.range ds.length).map fun i => ((pl ++ [j + i], (ds[i]?).getD .non) : Rp)).flatMap fun r => rowsD r.1 r.2
  | [], j => by rw [rowsL]; rfl
  | d :: ds, j => by
    rw [rowsL, rowsL_range pl ds (j + 1), List.length_cons, List.range_succ_eq_map, List.map_cons, List.flatMap_cons, List.map_map]
    congr 1
    congr 1
    apply List.map_congr_left
    intro i _
    show ((pl ++ [j + 1 + i], (ds[i]?).getD .non) : Rp) = (pl ++ [j + (i + 1)], _)
    rw [show j + 1 + i = j + (i + 1) by omega]
    rfl
theorem rev_map {α : Type} (g : Nat → α) (n : Nat) : ((List.range n).map fun t => g (n - 1 - t)).reverse = (List.range n).map g := by
  apply List.ext_getElem
  · simp
  · intro i h1 h2
    have hi : i < n := by simpa using h2
    rw [List.getElem_reverse, List.getElem_map, List.getElem_map, List.getElem_range, List.getElem_range]
    simp only [List.length_map, List.length_range]
    congr 1
    omega
mutual
theorem rowsD_len : ∀ (pl : List Nat) (d : D), (rowsD pl d).length ≤ knots d
  | pl, .tup (.str x :: ps) => by
    rw [rowsD, List.length_cons]
    have e : knots (.tup (.str x :: ps)) = 1 + knotsL ps := by simp [knots, knotsL]
    rw [e]
    split
    · simp
    · have := rowsL_len pl 0 ps
      omega
  | pl, .tup [] => by simp [rowsD]
  | pl, .tup (.non :: _) => by simp [rowsD]
  | pl, .tup (.bl _ :: _) => by simp [rowsD]
  | pl, .tup (.int _ :: _) => by simp [rowsD]
  | pl, .tup (.tup _ :: _) => by simp [rowsD]
  | pl, .non => by simp [rowsD]
  | pl, .bl _ => by simp [rowsD]
  | pl, .int _ => by simp [rowsD]
  | pl, .str _ => by simp [rowsD]
theorem rowsL_len : ∀ (pl : List Nat) (j : Nat) (ds : List D), (rowsL pl j ds).length ≤ knotsL ds
  | pl, j, [] => by simp [rowsL]
  | pl, j, d :: ds => by
    rw [rowsL, List.length_append]
    have h1 := rowsD_len (pl ++ [j]) d
    have h2 := rowsL_len pl (j + 1) ds
    have e : knotsL (d :: ds) = knots d + knotsL ds := by simp [knotsL]
    omega
end
def vD : V → D
  | .str x => .str x
  | _ => .non
def stD (r : Rp) : D := .tup [plD r.1, r.2]
def rowD (inb : Str → Bool) (r : Rp) : D := .tup [plD r.1, r.2, vD (ruleD inb r.2)]
theorem rule_rep {H : Hp} {inb : Str → Bool} {d : D} (h : Wf d) : Rep H (vD (ruleD inb d)) (ruleD inb d) := by
  obtain ⟨k, h⟩ := h
  obtain ⟨x, ps, rfl⟩ := wf_form h
  show Rep H (vD (ruleW inb x ps)) (ruleW inb x ps)
  have st : ∀ y : Str, y.length ≤ 1000 → Rep H (vD (.str y)) (.str y) := fun y hy => ⟨rfl, hy⟩
  have nn : Rep H (vD .non) .non := rfl
  unfold ruleW nameB
  repeat' split
  all_goals first | exact nn | exact st _ (by decide +kernel)
theorem reps_snoc {H : Hp} : ∀ {ds : List D} {d : D} {ws : List V}, Reps H (ds ++ [d]) ws → ∃ ws' y, ws = ws' ++ [y] ∧ Reps H ds ws' ∧ Rep H d y
  | [], d, _, ⟨v, r, e, q, t⟩ => by
    subst e
    cases (show r = [] from t)
    exact ⟨[], v, rfl, rfl, q⟩
  | a :: ds, d, _, ⟨v, r, e, q, t⟩ => by
    subst e
    obtain ⟨ws', y, rfl, h1, h2⟩ := reps_snoc t
    exact ⟨v :: ws', y, rfl, ⟨v, ws', rfl, q, h1⟩, h2⟩
def spRows : Sp := fun vs H Q _ => ∃ (d : D) (v : V) (b : Addr) (kvs : List (Key × V)), vs = [v, .ref b] ∧ Rep H d v ∧ Wf d ∧ depth d ≤ 75 ∧ knots d ≤ 1000000 ∧ H b = some (.dK kvs) ∧
  ∀ (f : Addr) (fs : List V) (H' : Hp), H f = none → Same H H' → H' f = some (.lst fs) → Reps H' ((rowsD [] d).map (rowD (inB kvs))) fs → Q (.ref f) H'
structure Wk (H H' : Hp) (d : D) (b pf pw : Addr) (inb : Str → Bool) (st fo : List Rp) (ws fs : List V) : Prop where
  hw : H' pw = some (.lst ws)
  hf : H' pf = some (.lst fs)
  rw_ : Reps H' (st.map stD) ws
  rf : Reps H' (fo.map (rowD inb)) fs
  all : fo ++ st.reverse.flatMap (fun r => rowsD r.1 r.2) = rowsD [] d
  ok : ∀ x ∈ st, Wf x.2 ∧ x.1.length + depth x.2 ≤ 75
  kn : (st.map fun r => knots r.2).sum ≤ 1000000
  sm : Same H H'
theorem sc_law_rows : FnScope ["_law_thing_here", "_law_book_here", "_law_found", "_law_waiting", "_law_place", "_law_here", "_law_kids_here", "_law_step", "_law_number_here"] ["_law_thing_here", "_law_book_here"] (defScope s_law_rows) := ⟨rfl, rfl, rfl, by decide +kernel, rfl, by decide +kernel, by decide +kernel⟩
theorem c_law_rows (D : Df K mg "_law_rows" s_law_rows ["_law_thing_here", "_law_book_here"]) (M : Mg mg t) (F_law_rule : Cal P w K mg CX0 "_law_rule" (1) ["_law_thing_here", "_law_book_here"] spRule) (F_law_kids : Cal P w K mg CX0 "_law_kids" (1) ["_law_thing_here"] spKids) : Cal P w K mg CX0 "_law_rows" (2) ["_law_thing_here", "_law_book_here"] spRows := by
  refine D.ok sc_law_rows (fun vs H Q E h => ?_) (fun base f cdv A outer s H vs Q E hr h => ?_)
  · obtain ⟨d, v, b, kvs, rfl, _⟩ := h
    rfl
  obtain ⟨d, v, b, kvs, rfl, r, wf, hdp, hkn, hb, q⟩ := h
  refine ⟨_, (pss_cons (ps_set (i := 2) sc_law_rows.nd rfl (by first | exact Or.inl rfl | exact Or.inr rfl) (pe_lst pa_nil))
      (pss_cons (ps_set (i := 3) sc_law_rows.nd rfl (by first | exact Or.inl rfl | exact Or.inr rfl) (pe_lst (pa_cons (pe_tup (pa_cons (pe_tup pa_nil) (pa_cons (pv 0) pa_nil))) pa_nil)))
      (pss_cons (ps_while PassesOwn.never (pt_cmpR op_gt (pe_callB call_len_seq rfl M.n_len bt_len (pa_cons (pv 3) pa_nil)) pe_int (nomark _)) (pss_cons (ps_asg (pe_bm0 PySem.F.plainAttrs_list PySem.F.slot_list_pop PySem.F.type_list_pop mt_pop (pv 3)) (pg_tup (n := 2) rfl (pgs_cons (pg_name (i := 4) sc_law_rows.nd rfl (by first | exact Or.inl rfl | exact Or.inr rfl)) (pgs_cons (pg_name (i := 5) sc_law_rows.nd rfl (by first | exact Or.inl rfl | exact Or.inr rfl)) pgs_nil))))
      (pss_cons (ps_expr (pe_bm PySem.F.plainAttrs_list PySem.F.slot_list_append PySem.F.type_list_append mt_append (pv 2) (pa_cons (pe_tup (pa_cons (pv 4) (pa_cons (pv 5) (pa_cons (pe_fn F_law_rule (hr.mono (by omega)) rfl pass0 (pa_cons (pv 5) (pa_cons (pv 1) pa_nil))) pa_nil)))) pa_nil)))
      (pss_cons (ps_set (i := 6) sc_law_rows.nd rfl (by first | exact Or.inl rfl | exact Or.inr rfl) (pe_fn F_law_kids (hr.mono (by omega)) rfl pass0 (pa_cons (pv 5) pa_nil)))
      (pss_one (ps_for PassesOwn.never rfl (pi_range1 rfl M.n_range (pa_cons (pe_callB call_len_seq rfl M.n_len bt_len (pa_cons (pv 6) pa_nil)) pa_nil)) (pg_name (i := 7) sc_law_rows.nd rfl (by first | exact Or.inl rfl | exact Or.inr rfl)) (pss_cons (ps_set (i := 8) sc_law_rows.nd rfl (by first | exact Or.inl rfl | exact Or.inr rfl) (pe_op op_sub (pe_op op_sub (pe_callB call_len_seq rfl M.n_len bt_len (pa_cons (pv 6) pa_nil)) pe_int) (pv 7)))
      (pss_one (ps_expr (pe_bm PySem.F.plainAttrs_list PySem.F.slot_list_append PySem.F.type_list_append mt_append (pv 3) (pa_cons (pe_tup (pa_cons (pe_op op_catU (pv 4) (pe_tup (pa_cons (pv 8) pa_nil))) (pa_cons (pe_ix ix_list (pv 6) (pv 8) (fun _ _ => rfl)) pa_nil))) pa_nil)))))))))))
      (pss_one (ps_ret (pv 2)))))), ?_⟩
  try dsimp only [cxK, cxK2]
  refine let4 ?_
  intro _ _ _ _
  refine ⟨(by show 0 ≤ sizeLine; decide), fun pf hpf => ?_⟩
  have t1 := same_new hpf (.lst [])
  refine ⟨(by show 0 ≤ sizeLine; decide), fun q0 e0 => ⟨_, rfl, (by show 2 ≤ sizeLine; decide), fun q1 e1 => ⟨(by show 1 ≤ sizeLine; decide), fun pw hpw => ?_⟩⟩⟩
  have t2 := same_new e0 (.tup [])
  have t3 := same_new e1 (.tup [V.ref q0, v])
  have t4 := same_new hpw (.lst [V.ref q1])
  have npf : pf ≠ pw := ne_of_none (t3 _ _ (t2 _ _ (show (upd H pf (.lst [])) pf = some (.lst []) from upd_same))) hpw
  have hpw0 : H pw = none := t1.free (t2.free (t3.free hpw))
  have hq0 : (upd (upd (upd (upd H pf (.lst [])) q0 (.tup [])) q1 (.tup [V.ref q0, v])) pw (.lst [V.ref q1])) q0 = some (.tup []) := t4 _ _ (t3 _ _ upd_same)
  have hq1 : (upd (upd (upd (upd H pf (.lst [])) q0 (.tup [])) q1 (.tup [V.ref q0, v])) pw (.lst [V.ref q1])) q1 = some (.tup [V.ref q0, v]) := t4 _ _ upd_same
  have hf0 : (upd (upd (upd (upd H pf (.lst [])) q0 (.tup [])) q1 (.tup [V.ref q0, v])) pw (.lst [V.ref q1])) pf = some (.lst []) := t4 _ _ (t3 _ _ (t2 _ _ upd_same))
  have hw0 : (upd (upd (upd (upd H pf (.lst [])) q0 (.tup [])) q1 (.tup [V.ref q0, v])) pw (.lst [V.ref q1])) pw = some (.lst [V.ref q1]) := upd_same
  have sm0 := t1.trans (t2.trans (t3.trans t4))
  generalize upd (upd (upd (upd H pf (.lst [])) q0 (.tup [])) q1 (.tup [V.ref q0, v])) pw (.lst [V.ref q1]) = H0 at hq0 hq1 hf0 hw0 sm0 ⊢
  clear t1 t2 t3 t4 e0 e1 hpw
  let Iw : Nat → L2.St → Hp → Prop := fun n σ' H' => ∃ (st fo : List Rp) (ws fs : List V) (o4 o5 o6 o7 o8 : Option V), σ' = [some v, some (.ref b), some (.ref pf), some (.ref pw), o4, o5, o6, o7, o8] ∧ n = (st.map fun r => knots r.2).sum ∧ Wk H H' d b pf pw (inB kvs) st fo ws fs
  refine ⟨Iw, ⟨_, [([], d)], [], [V.ref q1], [], none, none, none, none, none, rfl, rfl, ?_⟩, ?_⟩
  · refine ⟨hw0, hf0, ⟨_, _, rfl, ⟨q1, _, rfl, hq1, ⟨_, _, rfl, ⟨q0, [], rfl, hq0, rfl⟩, ⟨_, _, rfl, r.mono sm0, rfl⟩⟩⟩, rfl⟩, rfl, by simp, fun x hx => ?_, by simpa using hkn, sm0⟩
    rw [List.mem_singleton.mp hx]
    exact ⟨wf, by simpa using hdp⟩
  rintro n σ' H1 ⟨st, fo, ws, fs, o4, o5, o6, o7, o8, rfl, rfl, W⟩
  have lws := W.rw_.length
  rw [List.length_map] at lws
  refine ⟨_, rfl, pw, _, rfl, .inl (SqL.of W.hw), _, _, rfl, rfl, _, rfl, ?_⟩
  refine ite2 (fun c => ?_) (fun c => ?_)
  · have c : (0 : Int) < ((ws.length : Nat) : Int) := of_decide_eq_true c
    have hne : st ≠ [] := fun z => by subst z; have h0 : ws.length = 0 := lws; omega
    obtain ⟨st', ⟨pl, e⟩, rfl⟩ : ∃ st' x, st = st' ++ [x] := ⟨st.dropLast, st.getLast hne, (List.dropLast_concat_getLast hne).symm⟩
    have rws := W.rw_
    rw [List.map_append, List.map_singleton] at rws
    obtain ⟨ws', y, rfl, rws', ry⟩ := reps_snoc rws
    obtain ⟨wfe, dpe⟩ := W.ok (pl, e) (by simp)
    have wfe : Wf e := wfe
    have dpe : pl.length + depth e ≤ 75 := dpe
    obtain ⟨qy, _, rfl, hqy, ⟨plv, _, rfl, rpl, ⟨ev, _, rfl, re, rnil⟩⟩⟩ := ry
    cases (show _ = [] from rnil)
    have hkn' := W.kn
    rw [List.map_append, List.sum_append] at hkn'
    have hke : (List.map (fun r : Rp => knots r.2) [(pl, e)]).sum = knots e := by simp
    rw [hke] at hkn'
    have hall := W.all
    rw [List.reverse_append, List.reverse_singleton, List.singleton_append, List.flatMap_cons] at hall
    obtain ⟨x, ps, k, rfl, wfk, hps⟩ := wf_ps wfe
    have hkk := knots_kids wfk
    rw [hkk.1] at hkn'
    let Nw : L2.St → Hp → Prop := fun σ' H' => ∃ (st fo : List Rp) (ws fs : List V) (o4 o5 o6 o7 o8 : Option V), σ' = [some v, some (.ref b), some (.ref pf), some (.ref pw), o4, o5, o6, o7, o8] ∧ (st.map fun r => knots r.2).sum + 1 = ((st' ++ [(pl, KM.D.tup (.str x :: ps))]).map fun r => knots r.2).sum ∧ Wk H H' d b pf pw (inB kvs) st fo ws fs
    refine ⟨Nw, ?_, ?_⟩
    · rintro σ' H' ⟨st, fo, ws, fs, o4, o5, o6, o7, o8, rfl, hm, W'⟩
      exact ⟨_, by omega, st, fo, ws, fs, o4, o5, o6, o7, o8, rfl, rfl, W'⟩
    refine let4 ?_
    intro _ _ _ _
    -- pop
    have sm1 : Same H (upd H1 pw (.lst ws')) := same_upd W.sm hpw0
    refine ⟨_, rfl, .inl ⟨rfl, _, SqL.of W.hw⟩, pw, _, .ref qy, rfl, rfl, W.hw, (by simp), ?_⟩
    rw [List.dropLast_concat]
    have nqy : qy ≠ pw := fun z => by rw [z, W.hw] at hqy; cases hqy
    have hw2 : (upd H1 pw (.lst ws')) pw = some (.lst ws') := upd_same
    have hf2 : (upd H1 pw (.lst ws')) pf = some (.lst fs) := by rw [upd_ne npf]; exact W.hf
    have hqy2 : (upd H1 pw (.lst ws')) qy = some (.tup [plv, ev]) := by rw [upd_ne nqy]; exact hqy
    have rws2 := rws'.updL (o := .lst ws') W.hw
    have rf2 := W.rf.updL (o := .lst ws') W.hw
    have rpl2 := rpl.updL (o := .lst ws') W.hw
    have re2 := re.updL (o := .lst ws') W.hw
    generalize upd H1 pw (.lst ws') = H2 at sm1 hw2 hf2 hqy2 rws2 rf2 rpl2 re2 ⊢
    refine ⟨qy, _, rfl, SqT.of hqy2, rfl, _, _, rfl, _, _, rfl, rfl, ?_⟩
    -- append to what was found
    refine ⟨_, rfl, .inl ⟨rfl, _, SqL.of hf2⟩, _, rfl, _, rfl, _, rfl, _, rfl, _, ev, b, kvs, rfl, re2, wfe, sm1 _ _ hb, fun H3 s3 => ⟨(by show 3 ≤ sizeLine; decide), fun q3 e3 => ?_⟩⟩
    have t3 := same_new e3 (.tup [plv, ev, ruleD (inB kvs) (.tup (.str x :: ps))])
    have s23 := s3.trans t3
    have lf := rf2.length
    rw [List.length_map] at lf
    have lfo : fs.length < 16777216 := by
      have h1 := congrArg List.length hall
      rw [List.length_append] at h1
      have h2 := rowsD_len [] d
      omega
    refine ⟨pf, _, _, rfl, rfl, s23 _ _ hf2, (by rw [sizeLine_eq]; exact lfo), ?_⟩
    have hq3 : (upd H3 q3 (.tup [plv, ev, ruleD (inB kvs) (.tup (.str x :: ps))])) q3 = some (.tup [plv, ev, ruleD (inB kvs) (.tup (.str x :: ps))]) := upd_same
    have hf3 := s23 _ _ hf2
    have hw3 := s23 _ _ hw2
    have sm3 := sm1.trans s23
    have rws3 := rws2.mono s23
    have rf3 := rf2.mono s23
    have rpl3 := rpl2.mono s23
    have re3 := re2.mono s23
    generalize upd H3 q3 (.tup [plv, ev, ruleD (inB kvs) (.tup (.str x :: ps))]) = H4 at hq3 hf3 hw3 sm3 rws3 rf3 rpl3 re3 ⊢
    clear s23 t3 e3 s3
    have rrow : Rep H4 (rowD (inB kvs) (pl, .tup (.str x :: ps))) (.ref q3) := ⟨q3, _, rfl, hq3, ⟨_, _, rfl, rpl3, ⟨_, _, rfl, re3, ⟨_, _, rfl, rule_rep wfe, rfl⟩⟩⟩⟩
    have sm4 : Same H (upd H4 pf (.lst (fs ++ [V.ref q3]))) := same_upd sm3 hpf
    have hf4 : (upd H4 pf (.lst (fs ++ [V.ref q3]))) pf = some (.lst (fs ++ [V.ref q3])) := upd_same
    have hw4 : (upd H4 pf (.lst (fs ++ [V.ref q3]))) pw = some (.lst ws') := by rw [upd_ne npf.symm]; exact hw3
    have rws4 := rws3.updL (o := .lst (fs ++ [V.ref q3])) hf3
    have rf4 := (rf3.append (Reps.one rrow)).updL (o := .lst (fs ++ [V.ref q3])) hf3
    have rpl4 := rpl3.updL (o := .lst (fs ++ [V.ref q3])) hf3
    have re4 := re3.updL (o := .lst (fs ++ [V.ref q3])) hf3
    generalize upd H4 pf (.lst (fs ++ [V.ref q3])) = H5 at sm4 hf4 hw4 rws4 rf4 rpl4 re4 ⊢
    -- the children
    refine ⟨_, rfl, x, ps, ev, rfl, re4, hps, fun pk us H6 hpk s6 h6 r6 => ?_⟩
    have l6 := r6.length
    have hk4 := kids4 wfk
    have npk : pk ≠ pw := fun z => by rw [z, hw4] at hpk; cases hpk
    refine ⟨_, rfl, pk, _, rfl, .inl (SqL.of h6), _, rfl, (by show -(2 ^ 62) ≤ ((us.length : Nat) : Int); omega), (by show ((us.length : Nat) : Int) < 2 ^ 62; omega), ?_⟩
    obtain ⟨pa, pvs, rfl, hpa, rpa⟩ := id rpl4
    have lpa := rpa.length
    rw [List.length_map] at lpa
    have nk : us.length = (kidsD x ps).length := l6
    have hw6 := s6 _ _ hw4
    have hf6 := s6 _ _ hf4
    have hpa6 := s6 _ _ hpa
    have rws6 := rws4.mono s6
    have rf6 := rf4.mono s6
    have re6 := re4.mono s6
    have sm6 := sm4.trans s6
    let Ifr : Nat → L2.St → Hp → Prop := (fun j σ' H' => ∃ (ws2 : List V) (sv nv : Option V), σ' = [some v, some (.ref b), some (.ref pf), some (.ref pw), some (.ref pa), some ev, some (.ref pk), sv, nv] ∧ H' pw = some (.lst ws2) ∧ Reps H' ((st' ++ (List.range j).map fun t => ((pl ++ [us.length - 1 - t], ((kidsD x ps)[us.length - 1 - t]?).getD .non) : Rp)).map stD) ws2 ∧ SameX pw H6 H')
    refine for_by us.length Ifr ?_ ?_ ?_
    · exact ⟨ws', o7, o8, rfl, hw6, by simpa using rws6, fun _ _ _ h => h⟩
    · rintro j σ' H7 hj ⟨ws2, sv, nv, rfl, hw7, rws7, x7⟩
      refine ⟨hj, ?_⟩
      rintro x' H7' ⟨rfl, rfl⟩
      have e0 : (0 : Int) + (j : Int) = ((j : Nat) : Int) := by omega
      rw [e0]
      have h67 := x7 _ _ npk h6
      have hpa7 := x7 _ _ (fun z => by rw [z, hw6] at hpa6; cases hpa6) hpa6
      obtain ⟨di, hdi⟩ : ∃ di, (kidsD x ps)[us.length - 1 - j]? = some di := ⟨_, List.getElem?_eq_getElem (by omega)⟩
      obtain ⟨ui, hui, rui⟩ := r6.get hdi
      have rui7 := rui.monoX x7 (not_tup_list hw6)
      have rpa7 : Reps _ (pl.map fun i => KM.D.int (i : Nat)) pvs := (rpa.mono s6).monoX x7 (not_tup_list hw6)
      refine ⟨_, rfl, pk, _, rfl, .inl (SqL.of h67), _, _, rfl, rfl, _, rfl, _, _, rfl, rfl, ?_⟩
      have en : ((us.length : Nat) : Int) - 1 - ((j : Nat) : Int) = ((us.length - 1 - j : Nat) : Int) := by omega
      show gName 8 (V.int (((us.length : Nat) : Int) - 1 - ((j : Nat) : Int))) _ _ _
      rw [en]
      refine ⟨_, rfl, .inl ⟨rfl, _, SqL.of hw7⟩, _, rfl, _, rfl, (by show 1 ≤ sizeLine; decide), fun q5 e5 => ?_⟩
      have t5 := same_new e5 (.tup [V.int ((us.length - 1 - j : Nat) : Int)])
      refine ⟨pa, q5, _, _, rfl, rfl, t5 _ _ hpa7, upd_same, ?_, fun q6 H8 s8 h8 => ?_⟩
      · rw [List.length_singleton, sizeLine_eq]; omega
      have t58 := t5.trans s8
      refine ⟨_, rfl, _, rfl, pk, _, _, ui, rfl, rfl, SqL.of (t58 _ _ h67), atI_nat hui, (by show 2 ≤ sizeLine; decide), fun q7 e7 => ?_⟩
      have t9 := same_new e7 (.tup [V.ref q6, ui])
      have t79 := t58.trans t9
      have lw7 := rws7.length
      rw [List.length_map, List.length_append, List.length_map, List.length_range] at lw7
      have lst' : st'.length ≤ 1000000 := by
        have h1 : ∀ l : List Rp, (∀ x ∈ l, Wf x.2) → l.length ≤ (l.map fun r => knots r.2).sum := fun l => by
          induction l with
          | nil => intro _; exact Nat.zero_le _
          | cons a l ih =>
            intro h
            have h2 := ih fun x hx => h x (List.mem_cons_of_mem _ hx)
            obtain ⟨k', hk'⟩ := h a List.mem_cons_self
            obtain ⟨x', ps', e'⟩ := wf_form hk'
            have h3 : 1 ≤ knots a.2 := by rw [e']; simp only [knots]; omega
            rw [List.map_cons, List.sum_cons, List.length_cons]
            omega
        have := h1 st' fun x hx => (W.ok x (List.mem_append_left _ hx)).1
        omega
      refine ⟨pw, ws2, _, rfl, rfl, t79 _ _ hw7, (by rw [sizeLine_eq]; omega), ?_⟩
      have hq7 : (upd H8 q7 (.tup [V.ref q6, ui])) q7 = some (.tup [V.ref q6, ui]) := upd_same
      have h89 := t9 _ _ h8
      have rplc : Rep (upd H8 q7 (.tup [V.ref q6, ui])) (plD (pl ++ [us.length - 1 - j])) (.ref q6) := by
        refine ⟨q6, _, rfl, h89, ?_⟩
        rw [List.map_append]
        exact (rpa7.mono t79).append ⟨_, _, rfl, rfl, rfl⟩
      have rnew : Rep (upd H8 q7 (.tup [V.ref q6, ui])) (stD (pl ++ [us.length - 1 - j], di)) (.ref q7) := ⟨q7, _, rfl, hq7, ⟨_, _, rfl, rplc, ⟨_, _, rfl, rui7.mono t79, rfl⟩⟩⟩
      have rall := (rws7.mono t79).append (Reps.one rnew)
      refine ⟨ws2 ++ [V.ref q7], _, _, rfl, upd_same, ?_, x7.trans (t79.x.trans (SameX.upd _))⟩
      have el : (st' ++ (List.range (j + 1)).map fun t => ((pl ++ [us.length - 1 - t], ((kidsD x ps)[us.length - 1 - t]?).getD .non) : Rp)).map stD = (st' ++ (List.range j).map fun t => ((pl ++ [us.length - 1 - t], ((kidsD x ps)[us.length - 1 - t]?).getD .non) : Rp)).map stD ++ [stD (pl ++ [us.length - 1 - j], di)] := by
        rw [List.range_succ]
        simp [hdi]
      rw [el]
      exact rall.updL (t79 _ _ hw7)
    · rintro σ' H7 ⟨ws2, sv, nv, rfl, hw7, rws7, x7⟩
      refine ⟨Nat.le_refl _, ?_⟩
      have hrev : ((List.range us.length).map fun t => ((pl ++ [us.length - 1 - t], ((kidsD x ps)[us.length - 1 - t]?).getD .non) : Rp)).reverse = (List.range us.length).map fun i => ((pl ++ [i], ((kidsD x ps)[i]?).getD .non) : Rp) := rev_map (fun i => ((pl ++ [i], ((kidsD x ps)[i]?).getD .non) : Rp)) us.length
      have hsum : (((List.range us.length).map fun t => ((pl ++ [us.length - 1 - t], ((kidsD x ps)[us.length - 1 - t]?).getD .non) : Rp)).map (fun r => knots r.2)).sum = ((kidsD x ps).map knots).sum := by
        rw [← List.sum_reverse, ← List.map_reverse, hrev, List.map_map, nk]
        exact congrArg List.sum (range_map knots .non (kidsD x ps))
      refine ⟨st' ++ (List.range us.length).map fun t => ((pl ++ [us.length - 1 - t], ((kidsD x ps)[us.length - 1 - t]?).getD .non) : Rp), fo ++ [(pl, .tup (.str x :: ps))], ws2, fs ++ [V.ref q3], _, _, _, _, _, rfl, ?_, ⟨hw7, x7 _ _ npf hf6, rws7, ?_, ?_, ?_, ?_, ?_⟩⟩
      · rw [List.map_append, List.sum_append, hsum, List.map_append, List.sum_append]
        have e1 : (List.map (fun r : Rp => knots r.2) [(pl, KM.D.tup (.str x :: ps))]).sum = knots (.tup (.str x :: ps)) := by simp
        rw [e1, hkk.1]
        omega
      · rw [List.map_append, List.map_singleton]
        exact rf6.monoX x7 (not_tup_list hw6)
      · rw [← hall, List.reverse_append, List.flatMap_append, hrev, rowsD_eq, rowsL_range, nk]
        simp
      · intro x' hx'
        rcases List.mem_append.mp hx' with h | h
        · exact W.ok x' (List.mem_append_left _ h)
        · obtain ⟨i, hi, rfl⟩ := List.mem_map.mp h
          have hi := List.mem_range.mp hi
          obtain ⟨di, hdi⟩ : ∃ di, (kidsD x ps)[us.length - 1 - i]? = some di := ⟨_, List.getElem?_eq_getElem (by omega)⟩
          obtain ⟨w1, w2⟩ := wf_kid wfk hdi
          rw [hdi]
          refine ⟨w1, ?_⟩
          rw [List.length_append, List.length_singleton]
          show pl.length + 1 + depth di ≤ 75
          omega
      · rw [List.map_append, List.sum_append, hsum]
        omega
      · exact fun b' o' h' => x7 _ _ (ne_of_none h' hpw0) (sm6 _ _ h')
  · have c : ¬ (0 : Int) < ((ws.length : Nat) : Int) := of_decide_eq_false (Bool.eq_false_iff.mpr c)
    have hst : st = [] := List.length_eq_zero_iff.mp (by omega)
    subst hst
    have hall := W.all
    rw [List.reverse_nil, List.flatMap_nil, List.append_nil] at hall
    have rf := W.rf
    rw [hall] at rf
    exact ⟨_, rfl, q pf fs H1 hpf W.sm W.hf rf⟩
end K30
end
section
set_option maxHeartbeats 2000000
namespace K30
open PySem L2 L3 KM PyProof.Rows
seal L2.PE L2.PS L2.PSs L2.PT L2.PW L2.PA L2.PG L2.PGs L2.PI L2.PC L2.PO L2.PPs L2.PK L3.PIf
variable {P : Program} {w : World} {K : PySem.W.Frag} {mg : Str → Option Value} {base : Heap} {t : Adr}
def spSized (n : Nat) : Sp := fun vs H Q _ => ∃ m : Int, vs = [.int m] ∧ 1 ≤ m ∧ m < 2 ^ n ∧ ∀ (d : D) (v : V) (H' : Hp), Same H H' → Rep H' d v → wfG isStrD false d = true → depth d ≤ n → ((knots d : Nat) : Int) ≤ m → Q v H'
theorem sc_law_sized : FnScope ["_law_many"] ["_law_many"] (defScope s_law_sized) := ⟨rfl, rfl, rfl, by decide +kernel, rfl, by decide +kernel, by decide +kernel⟩
theorem st_law_sized {n : Nat} (D : Df K mg "_law_sized" s_law_sized ["_law_many"]) (M : Mg mg t) (F_law_sized : Cal P w K mg CX0 "_law_sized" (n + 1) ["_law_many"] (spSized n)) : Cal P w K mg CX0 "_law_sized" (n + 2) ["_law_many"] (spSized (n + 1)) := by
  refine D.ok sc_law_sized (fun vs H Q E h => ?_) (fun base f cdv A outer s H vs Q E hr h => ?_)
  · obtain ⟨m, rfl, _⟩ := h
    rfl
  obtain ⟨m, rfl, m1, m2, q⟩ := h
  rw [Int.pow_succ] at m2
  have one : 1 ≤ sizeLine := by decide
  refine ⟨_, (pss_cons (ps_if (pt_cmpR op_eq (pv 0) pe_int (nomark _)) (pss_one (ps_ret (pe_tup (pa_cons pe_str pa_nil)))) pss_nil)
      (pss_cons (ps_if (pt_cmpR op_eq (pv 0) pe_int (nomark _)) (pss_one (ps_ret (pe_tup (pa_cons pe_str (pa_cons (pe_tup (pa_cons pe_str pa_nil)) pa_nil))))) pss_nil)
      (pss_one (ps_ret (pe_tup (pa_cons pe_str (pa_cons (pe_fn F_law_sized (hr.mono (by omega)) rfl pass0 (pa_cons (pe_op op_fdiv (pe_op op_sub (pv 0) pe_int) pe_int) pa_nil)) (pa_cons (pe_fn F_law_sized (hr.mono (by omega)) rfl pass0 (pa_cons (pe_op op_sub (pe_op op_sub (pv 0) pe_int) (pe_op op_fdiv (pe_op op_sub (pv 0) pe_int) pe_int)) pa_nil)) pa_nil)))))))), ?_⟩
  try dsimp only [cxK, cxK2]
  refine let3 ?_
  intro _ _ _
  refine ⟨_, rfl, rfl, _, rfl, ite2 (fun c => ?_) (fun c => ?_)⟩
  · have c : V.int m = V.int 1 := of_decide_eq_true c
    injection c with c
    subst c
    exact ⟨one, fun p1 hp1 => q _ _ _ (same_new hp1 _) (rep_new hp1 (rs rw_ r0)) wf_zero (by apply KM.d0; with_reducible repeat' first | apply KM.q0i | apply KM.q0s | apply KM.q0 | apply KM.q4 | apply KM.q3 | apply KM.q2 | apply KM.q1 | omega) (by simp only [knots, knotsL]; omega)⟩
  have c : m ≠ 1 := fun z => c (by rw [z]; exact decide_eq_true rfl)
  refine ⟨_, rfl, rfl, _, rfl, ite2 (fun c2 => ?_) (fun c2 => ?_)⟩
  · have c2 : V.int m = V.int 2 := of_decide_eq_true c2
    injection c2 with c2
    subst c2
    refine ⟨one, fun p1 hp1 => ⟨(by show 2 ≤ sizeLine; decide), fun p2 hp2 => ?_⟩⟩
    have s1 := same_new hp1 (.tup [V.str "zero"])
    refine q _ _ _ (s1.trans (same_new hp2 _)) (rep_new hp2 (rs rw_ (rs (rep_new hp1 (rs rw_ r0)) r0))) (wf_next wf_zero) ?_ (by simp only [knots, knotsL]; omega)
    cases n with
    | zero => simp at m2
    | succ n => simp only [depth, depthL]; omega
  have c2 : m ≠ 2 := fun z => c2 (by rw [z]; exact decide_eq_true rfl)
  refine ⟨_, rfl, _, _, rfl, rfl, _, _, rfl, rfl, ⟨by decide, by decide⟩, (m - 1) / 2, rfl, (by omega), (by omega), fun d1 v1 H1 s1 r1 w1 a1 b1 => ?_⟩
  refine ⟨_, rfl, _, _, rfl, rfl, _, rfl, _, _, rfl, rfl, _, _, rfl, rfl, ⟨by decide, by decide⟩, _, _, rfl, rfl, m - 1 - (m - 1) / 2, rfl, (by omega), (by omega), fun d2 v2 H2 s2 r2 w2 a2 b2 => ?_⟩
  refine ⟨(by show 3 ≤ sizeLine; decide), fun p1 hp1 => ?_⟩
  refine q _ _ _ (s1.trans (s2.trans (same_new hp1 _))) (rep_new hp1 (rs rw_ (rs (r1.mono s2) (rs r2 r0)))) (wf_app w1 w2) ?_ ?_
  · apply KM.d0; with_reducible repeat' first | apply KM.q0i | apply KM.q0s | apply KM.q0 | apply KM.q4 | apply KM.q3 | apply KM.q2 | apply KM.q1 | omega
  · simp only [knots, knotsL]; omega
theorem c_law_sized (D : Df K mg "_law_sized" s_law_sized ["_law_many"]) (M : Mg mg t) : ∀ n : Nat, Cal P w K mg CX0 "_law_sized" (n + 1) ["_law_many"] (spSized n)
  | 0 => Cal.never D fun vs H Q E ⟨m, _, h1, h2, _⟩ => by
    have : m < 1 := h2
    omega
  | n + 1 => st_law_sized D M (c_law_sized D M n)
end K30
end
section
set_option maxHeartbeats 2000000
namespace K30
open PySem L2 L3 KM PyProof.Rows
seal L2.PE L2.PS L2.PSs L2.PT L2.PW L2.PA L2.PG L2.PGs L2.PI L2.PC L2.PO L2.PPs L2.PK L3.PIf
variable {P : Program} {w : World} {K : PySem.W.Frag} {mg : Str → Option Value} {base : Heap} {t : Adr}
def one (f : D → Bool) : List D → Bool
  | [p] => f p
  | _ => false
end K30
end
section
namespace L3
open PySem PySem.Spec PyProof.Rows L2 KM
end L3
end
section
namespace L3
open PySem PySem.Spec PyProof.Rows L2 KM
mutual
def pyD : D → PyData
  | .non => .none
  | .bl b => .bool b
  | .int i => .int i
  | .str x => .str x
  | .tup ds => .tuple (pyL ds)
def pyL : List D → List PyData
  | [] => []
  | d :: ds => pyD d :: pyL ds
end
mutual
theorem py_depth : ∀ d : D, (pyD d).depth ≤ depth d
  | .non => Nat.zero_le _
  | .bl _ => Nat.zero_le _
  | .int _ => Nat.zero_le _
  | .str _ => Nat.zero_le _
  | .tup ds => by
    show PyData.depthAll (pyL ds) + 1 ≤ 1 + depthL ds
    have := py_depthL ds
    omega
theorem py_depthL : ∀ ds : List D, PyData.depthAll (pyL ds) ≤ depthL ds
  | [] => Nat.zero_le _
  | d :: ds => by
    show max (pyD d).depth (PyData.depthAll (pyL ds)) ≤ max (depth d) (depthL ds)
    have h1 := py_depth d
    have h2 := py_depthL ds
    omega
end
section
variable {X : Cx} {pins : List (Addr × Obj)} {σ : L2.St} {H : Hp} {s : Shared}
end
mutual
def cmpD : D → Bool
  | .non => true
  | .bl _ => false
  | .int _ => true
  | .str x => (PyData.str x).canLay0
  | .tup ds => cmpL ds
def cmpL : List D → Bool
  | [] => true
  | d :: ds => cmpD d && cmpL ds
end
mutual
theorem cmp_lay : ∀ d : D, cmpD d = true → (pyD d).canLay0 = true
  | .non, _ => rfl
  | .bl _, h => by cases h
  | .int _, _ => rfl
  | .str x, h => h
  | .tup ds, h => cmp_layL ds h
theorem cmp_layL : ∀ ds : List D, cmpL ds = true → PyData.canLayAll0 (pyL ds) = true
  | [], _ => rfl
  | d :: ds, h => by
    have h : (cmpD d && cmpL ds) = true := h
    rw [Bool.and_eq_true] at h
    show ((pyD d).canLay0 && PyData.canLayAll0 (pyL ds)) = true
    rw [cmp_lay d h.1, cmp_layL ds h.2]
    rfl
end
theorem shp {d : D} (h : cmpD d = true) (hd : depth d ≤ 60) : SeqAt.shaped (pyD d) = true := by
  unfold SeqAt.shaped
  rw [cmp_lay d h, Bool.true_and]
  exact decide_eq_true (Nat.le_trans (py_depth d) (by omega))
end L3
end
section
namespace L3
open PySem PySem.Spec PyProof.Rows L2 KM
end L3
end
section
namespace L3
open PySem PySem.Spec PyProof.Rows L2 KM
section
variable {P : Program} {w : World}
open SeqAt MeetsSeq3 in
open SeqAt MeetsSeq3 in
end
section
variable {X : Cx}
end
end L3
end
section
namespace L3
open PySem
end L3
end
section
namespace L3
open PySem PySem.Builtin PySem.Builtin.Str PySem.StrLaws
def brk (c : Nat) : Bool := c == 32 || c == 10 || c == 40 || c == 41
end L3
end
section
namespace L3
open PySem PySem.Spec PyProof.Rows L2 KM
section
variable {X : Cx}
variable {e : Expr} {es : List Expr} {te : TE} {st : Stmt} {rest : List Stmt} {t u : TS} {pos : Pos}
end
structure FnOkP (P : Program) (w : World) (K : PySem.W.Frag) (mg : Str → Option Value) (base : Heap) (CX : CXT) (k : Nat) (f : Addr) (fd : FuncData) (ps : List Str) (sp : Sp) : Prop where
  len : ∀ vs H Q E, sp vs H Q E → vs.length = ps.length
  run : ∀ (A : Around) (outer : List Env) (s : Shared) (H : Hp) (args : Args) (us : List Value) (vs : List V) (Q : VK) (E : XK), 0 < s.toks → Room k A → Env0 P w K mg base A outer s H → BindsTo s fd args (ps.zip us) → Vals vs us → sp vs H Q E →
    codeAny (model P w) A (.call (.ref f) args) (CR CX A.handled outer P w H s Q E) s
section
variable {X : Cx}
end
end L3
end
section
namespace L3
open PySem PySem.Spec PyProof.Rows L2
section
variable {prog : Program} {w : World} {A : Around} {E : Value → Shared → Prop} {s : Shared}
end
end L3
end
section
namespace L3
open PySem PySem.Spec PyProof.Rows L2
end L3
end
section
namespace L3
open PySem PySem.Spec PyProof.Rows L2 KM
end L3
end
section
namespace L3
open PySem PySem.Spec PyProof.Rows L2 KM
end L3
end
section
namespace L3
open PySem PySem.Spec PyProof.Rows L2 KM
def eqB (p : Prop) : Bool := @decide p (Classical.propDecidable p)
theorem eqB_t {p : Prop} (h : p) : eqB p = true := @decide_eq_true p (Classical.propDecidable p) h
theorem eqB_f {p : Prop} (h : ¬ p) : eqB p = false := @decide_eq_false p (Classical.propDecidable p) h
theorem of_eqB {p : Prop} (h : eqB p = true) : p := @of_decide_eq_true p (Classical.propDecidable p) h
mutual
/-- no truths within -/
def nbD : D → Bool
  | .bl _ => false
  | .tup ds => nbL ds
  | _ => true
def nbL : List D → Bool
  | [] => true
  | d :: ds => nbD d && nbL ds
end
mutual
theorem rep_inj {H : Hp} : ∀ {d e : D} {v : V}, Rep H d v → Rep H e v → d = e
  | .non, e, v, h, h' => by
    cases (show v = V.non from h)
    cases e with
    | non => rfl
    | bl b => cases (show V.non = V.bl b from h')
    | int i => cases (show V.non = V.int i from h')
    | str x => cases (show V.non = V.str x from h'.1)
    | tup es => obtain ⟨a, vs, e, _⟩ := h'; cases e
  | .bl c, e, v, h, h' => by
    cases (show v = V.bl c from h)
    cases e with
    | non => cases (show V.bl c = V.non from h')
    | bl b => cases (show V.bl c = V.bl b from h'); rfl
    | int i => cases (show V.bl c = V.int i from h')
    | str x => cases (show V.bl c = V.str x from h'.1)
    | tup es => obtain ⟨a, vs, e, _⟩ := h'; cases e
  | .int c, e, v, h, h' => by
    cases (show v = V.int c from h)
    cases e with
    | non => cases (show V.int c = V.non from h')
    | bl b => cases (show V.int c = V.bl b from h')
    | int i => cases (show V.int c = V.int i from h'); rfl
    | str x => cases (show V.int c = V.str x from h'.1)
    | tup es => obtain ⟨a, vs, e, _⟩ := h'; cases e
  | .str c, e, v, h, h' => by
    cases (show v = V.str c from h.1)
    cases e with
    | non => cases (show V.str c = V.non from h')
    | bl b => cases (show V.str c = V.bl b from h')
    | int i => cases (show V.str c = V.int i from h')
    | str x => cases (show V.str c = V.str x from h'.1); rfl
    | tup es => obtain ⟨a, vs, e, _⟩ := h'; cases e
  | .tup ds, e, v, h, h' => by
    obtain ⟨a, vs, rfl, ha, r⟩ := h
    cases e with
    | non => cases (show V.ref a = V.non from h')
    | bl b => cases (show V.ref a = V.bl b from h')
    | int i => cases (show V.ref a = V.int i from h')
    | str x => cases (show V.ref a = V.str x from h'.1)
    | tup es =>
      obtain ⟨a', vs', e, ha', r'⟩ := h'
      cases e
      rw [ha] at ha'
      cases ha'
      rw [reps_inj r r']
theorem reps_inj {H : Hp} : ∀ {ds es : List D} {vs : List V}, Reps H ds vs → Reps H es vs → ds = es
  | [], es, vs, h, h' => by
    cases (show vs = [] from h)
    cases es with
    | nil => rfl
    | cons e es => obtain ⟨v, r, z, _⟩ := h'; cases z
  | d :: ds, es, vs, h, h' => by
    obtain ⟨v, r, rfl, q, t⟩ := h
    cases es with
    | nil => cases (show v :: r = [] from h')
    | cons e es =>
      obtain ⟨v', r', z, q', t'⟩ := h'
      cases z
      rw [rep_inj q q', reps_inj t t']
end
theorem relV_inj {v v' : V} {u : Value} (h : L2.RelV v u) (h' : L2.RelV v' u) : v = v' := by
  cases v <;> cases v' <;> simp only [L2.RelV] at h h' <;>
    first
    | (obtain ⟨t, h⟩ := h; obtain ⟨t', h'⟩ := h'; rw [h] at h'; cases h'; done)
    | (obtain ⟨t, h⟩ := h; obtain ⟨t', h'⟩ := h'; rw [h] at h'; cases h'; rfl)
    | (obtain ⟨t, h⟩ := h; obtain ⟨t', h'⟩ := h'; rw [h] at h'; done)
    | (obtain ⟨t, h⟩ := h; rw [h] at h'; cases h'; done)
    | (obtain ⟨t', h'⟩ := h'; rw [h'] at h; cases h; done)
    | (rw [h] at h'; done)
    | (rw [h] at h'; cases h'; done)
    | (rw [h] at h'; cases h'; rfl)
theorem pair_all (ds es : List D) : ((List.range (min ds.length es.length)).all (fun j => eqB (ds[j]? = es[j]?)) && (ds.length == es.length)) = eqB (D.tup ds = D.tup es) := by
  by_cases h : ds = es
  · subst h
    rw [eqB_t rfl, Bool.and_eq_true]
    exact ⟨List.all_eq_true.mpr fun j _ => eqB_t rfl, by simp⟩
  · rw [eqB_f (fun z => h (by injection z))]
    by_cases hl : ds.length = es.length
    · have : ¬ (List.range (min ds.length es.length)).all (fun j => eqB (ds[j]? = es[j]?)) = true := fun z => h (List.ext_getElem? fun i => by
        by_cases hi : i < ds.length
        · exact of_eqB (List.all_eq_true.mp z i (List.mem_range.mpr (by omega)))
        · rw [List.getElem?_eq_none (by omega), List.getElem?_eq_none (by omega)])
      rw [Bool.eq_false_iff.mpr this, Bool.false_and]
    · have : (ds.length == es.length) = false := by simpa using hl
      rw [this, Bool.and_false]
section
variable {X : Cx} {pins : List (Addr × Obj)} {σ : L2.St} {H : Hp} {s : Shared}
mutual
theorem eqAt_rep (I : Inv X pins σ H s) : ∀ (d e : D) (A : Around) (v u : V) (a b : Value), Rep H d v → Rep H e u → L2.RelV v a → L2.RelV u b → nbD d = true → nbD e = true → A.units + depth d < cLine → SeqAt.EqAt A s a b (eqB (d = e))
  | .non, e, A, v, u, a, b, r, r', k, k', n, n', hu => by
    cases (show v = V.non from r)
    cases (show a = Value.none from k)
    cases e with
    | non => cases (show u = V.non from r'); cases (show b = Value.none from k'); rw [eqB_t rfl]; exact SeqAt.EqAt.same _
    | bl c => cases n'
    | int i => cases (show u = V.int i from r'); obtain ⟨t, rfl⟩ := k'; rw [eqB_f (fun z => by cases z)]; exact SeqAt.EqAt.none_int i t
    | str x => cases (show u = V.str x from r'.1); obtain ⟨t, rfl⟩ := k'; rw [eqB_f (fun z => by cases z)]; exact SeqAt.EqAt.none_str x t
    | tup es =>
      obtain ⟨p, us, rfl, hp, rs⟩ := r'
      cases (show b = Value.ref p from k')
      obtain ⟨its, rv, pt, _⟩ := I.tuple (SqT.of (K := X.K) hp)
      rw [eqB_f (fun z => by cases z)]
      exact SeqAt.EqAt.none_tuple pt (by omega)
  | .bl _, _, _, _, _, _, _, _, _, _, _, n, _, _ => by cases n
  | .int c, e, A, v, u, a, b, r, r', k, k', n, n', hu => by
    cases (show v = V.int c from r)
    obtain ⟨t0, rfl⟩ := k
    cases e with
    | non => cases (show u = V.non from r'); cases (show b = Value.none from k'); rw [eqB_f (fun z => by cases z)]; exact SeqAt.EqAt.int_none c t0
    | bl c => cases n'
    | int i =>
      cases (show u = V.int i from r')
      obtain ⟨t, rfl⟩ := k'
      have : eqB (D.int c = D.int i) = (c == i) := by
        by_cases h : c = i
        · subst h; rw [eqB_t rfl]; simp
        · rw [eqB_f (fun z => h (by injection z))]; simp [h]
      rw [this]
      exact SeqAt.EqAt.int_int c t0 i t
    | str x => cases (show u = V.str x from r'.1); obtain ⟨t, rfl⟩ := k'; rw [eqB_f (fun z => by cases z)]; exact SeqAt.EqAt.int_str c t0 x t
    | tup es =>
      obtain ⟨p, us, rfl, hp, rs⟩ := r'
      cases (show b = Value.ref p from k')
      obtain ⟨its, rv, pt, _⟩ := I.tuple (SqT.of (K := X.K) hp)
      rw [eqB_f (fun z => by cases z)]
      exact SeqAt.EqAt.int_tuple c t0 pt (by omega)
  | .str c, e, A, v, u, a, b, r, r', k, k', n, n', hu => by
    cases (show v = V.str c from r.1)
    obtain ⟨t0, rfl⟩ := k
    cases e with
    | non => cases (show u = V.non from r'); cases (show b = Value.none from k'); rw [eqB_f (fun z => by cases z)]; exact SeqAt.EqAt.str_none c t0
    | bl c => cases n'
    | int i => cases (show u = V.int i from r'); obtain ⟨t, rfl⟩ := k'; rw [eqB_f (fun z => by cases z)]; exact SeqAt.EqAt.str_int c t0 i t
    | str x =>
      cases (show u = V.str x from r'.1)
      obtain ⟨t, rfl⟩ := k'
      have : eqB (D.str c = D.str x) = (c == x) := by
        by_cases h : c = x
        · subst h; rw [eqB_t rfl]; simp
        · rw [eqB_f (fun z => h (by injection z))]; simp [h]
      rw [this]
      exact SeqAt.EqAt.str_str c t0 x t
    | tup es =>
      obtain ⟨p, us, rfl, hp, rs⟩ := r'
      cases (show b = Value.ref p from k')
      obtain ⟨its, rv, pt, _⟩ := I.tuple (SqT.of (K := X.K) hp)
      rw [eqB_f (fun z => by cases z)]
      exact SeqAt.EqAt.str_tuple c t0 pt (by omega)
  | .tup ds, e, A, v, u, a, b, r, r', k, k', n, n', hu => by
    obtain ⟨q, vs, rfl, hq, rd⟩ := id r
    cases (show a = Value.ref q from k)
    obtain ⟨its, rv, pt, _⟩ := I.tuple (SqT.of (K := X.K) hq)
    have hu0 : A.units < cLine := by omega
    cases e with
    | non => cases (show u = V.non from r'); cases (show b = Value.none from k'); rw [eqB_f (fun z => by cases z)]; exact SeqAt.EqAt.tuple_none pt hu0
    | bl c => cases n'
    | int i => cases (show u = V.int i from r'); obtain ⟨t, rfl⟩ := k'; rw [eqB_f (fun z => by cases z)]; exact SeqAt.EqAt.tuple_int i t pt hu0
    | str x => cases (show u = V.str x from r'.1); obtain ⟨t, rfl⟩ := k'; rw [eqB_f (fun z => by cases z)]; exact SeqAt.EqAt.tuple_str x t pt hu0
    | tup es =>
      obtain ⟨p, us, rfl, hp, re⟩ := id r'
      cases (show b = Value.ref p from k')
      obtain ⟨jts, rv', pt', _⟩ := I.tuple (SqT.of (K := X.K) hp)
      by_cases hpq : q = p
      · subst hpq
        rw [eqB_t (rep_inj r r')]
        exact SeqAt.EqAt.same _
      · have l1 := rv.length
        have l2 := rv'.length
        have l3 := rd.length
        have l4 := re.length
        have hd : depth (.tup ds) = 1 + depthL ds := by simp [depth]
        rw [← pair_all]
        have s1 : its.toArray.size = ds.length := by rw [List.size_toArray]; omega
        have s2 : jts.toArray.size = es.length := by rw [List.size_toArray]; omega
        have := SeqAt.EqAt.of_refs hpq (SeqAt.RcAt.tuples (A := A) pt pt' hu0 (e := fun j => eqB (ds[j]? = es[j]?)) fun j h1 h2 => by
          have := eqAt_reps I ds es A.in1 vs us its jts rd re rv rv' n n' (by show A.units + 1 + depthL ds < cLine; omega) j (by simpa using h1) (by simpa using h2)
          simpa using this)
        rw [s1, s2] at this
        exact this
theorem eqAt_reps (I : Inv X pins σ H s) : ∀ (ds es : List D) (A : Around) (vs us : List V) (its jts : List Value), Reps H ds vs → Reps H es us → Vals vs its → Vals us jts → nbL ds = true → nbL es = true → A.units + depthL ds < cLine → ∀ (j : Nat) (h1 : j < its.length) (h2 : j < jts.length), SeqAt.EqAt A s its[j] jts[j] (eqB (ds[j]? = es[j]?))
  | [], es, A, vs, us, its, jts, r, r', k, k', n, n', hu, j, h1, h2 => by
    cases (show vs = [] from r)
    cases k
    exact absurd h1 (Nat.not_lt_zero _)
  | d :: ds, [], A, vs, us, its, jts, r, r', k, k', n, n', hu, j, h1, h2 => by
    cases (show us = [] from r')
    cases k'
    exact absurd h2 (Nat.not_lt_zero _)
  | d :: ds, e :: es, A, vs, us, its, jts, r, r', k, k', n, n', hu, j, h1, h2 => by
    obtain ⟨v, vs, rfl, q, t⟩ := r
    obtain ⟨u, us, rfl, q', t'⟩ := r'
    have n : (nbD d && nbL ds) = true := n
    have n' : (nbD e && nbL es) = true := n'
    rw [Bool.and_eq_true] at n n'
    have hd : depthL (d :: ds) = max (depth d) (depthL ds) := by simp [depthL]
    cases k with
    | cons k1 k2 =>
      cases k' with
      | cons k1' k2' =>
        cases j with
        | zero =>
          have := eqAt_rep I d e A v u _ _ q q' k1 k1' n.1 n'.1 (by omega)
          have e1 : eqB ((d :: ds)[0]? = (e :: es)[0]?) = eqB (d = e) := by
            by_cases h : d = e
            · rw [eqB_t h, eqB_t (by rw [h]; rfl)]
            · rw [eqB_f h, eqB_f (fun z => h (by simpa using z))]
          rw [e1]
          exact this
        | succ j =>
          exact eqAt_reps I ds es A vs us _ _ t t' k2 k2' n.2 n'.2 (by omega) j (by simpa using h1) (by simpa using h2)
end
end
def rInD : R2 := fun x y H Q => ∃ (p : Addr) (xs : List V) (d : D) (ds : List D), y = .ref p ∧ H p = some (.lst xs) ∧ Rep H d x ∧ Reps H ds xs ∧ nbD d = true ∧ nbL ds = true ∧ depthL ds ≤ 80 ∧ Q (.bl (eqB (d ∈ ds))) H
theorem op_inD {X : Cx} (hu : X.A.units + 84 < cLine) : OpR X (compareOp .In) rInD := by
  intro pins s σ H x y v u Q I rx ry h
  obtain ⟨p, xs, d, ds, rfl, hp, rd, rs, n, n', hd, q⟩ := h
  cases ry
  obtain ⟨its, r, pl, hz⟩ := I.list (SqL.of (K := X.K) hp)
  let e : Value → Bool := fun w' => eqB (∃ (v' : V), L2.RelV v' w' ∧ Rep H d v')
  have key : ∀ (ds : List D) (xs : List V) (its : List Value), Reps H ds xs → Vals xs its → nbL ds = true → depthL ds ≤ 80 → (∀ w' ∈ its, SeqAt.EqAt X.A.in1 s w' v (e w')) ∧ its.any e = eqB (d ∈ ds) := fun ds => by
    induction ds with
    | nil =>
      intro xs its r k _ _
      cases (show xs = [] from r)
      cases k
      exact And.intro (fun w' h => by cases h) (by rw [eqB_f (by simp)]; rfl)
    | cons d' ds ih =>
      intro xs its r k n hd
      obtain ⟨v', xs, rfl, q', t'⟩ := r
      have n : (nbD d' && nbL ds) = true := n
      rw [Bool.and_eq_true] at n
      have hd' : depthL (d' :: ds) = max (depth d') (depthL ds) := by simp [depthL]
      cases k with
      | cons k1 k2 =>
        obtain ⟨a1, a2⟩ := ih _ _ t' k2 n.2 (by omega)
        rename_i w0 its'
        have ew : e w0 = eqB (d' = d) := by
          show eqB (∃ (v' : V), L2.RelV v' w0 ∧ Rep H d v') = _
          by_cases hh : d' = d
          · rw [eqB_t hh, eqB_t ⟨v', k1, by rw [← hh]; exact q'⟩]
          · rw [eqB_f hh, eqB_f]
            rintro ⟨v2, z1, z2⟩
            rw [relV_inj z1 k1] at z2
            exact hh (rep_inj q' z2)
        refine ⟨fun w' hw => ?_, ?_⟩
        · rcases List.mem_cons.mp hw with rfl | hw
          · rw [ew]
            exact eqAt_rep I d' d X.A.in1 v' x _ v q' rd k1 rx n.1 (by assumption) (by show X.A.units + 1 + depth d' < cLine; omega)
          · exact a1 w' hw
        · rw [List.any_cons, ew, a2]
          by_cases hh : d' = d
          · rw [eqB_t hh, eqB_t (show d ∈ d' :: ds by rw [hh]; exact List.mem_cons_self ..)]; rfl
          · rw [eqB_f hh, Bool.false_or]
            by_cases hm : d ∈ ds
            · rw [eqB_t hm, eqB_t (by simp [hm])]
            · rw [eqB_f hm, eqB_f (by simp [hm]; exact fun z => hh z.symm)]
  obtain ⟨k1, k2⟩ := key ds xs its rs r n' hd
  refine SeqAt.in_listAt e pl.isList (fun w' hw => k1 w' (by simpa using hw)) ⟨.bl _, H, I, rfl, ?_⟩
  rw [show its.toArray.any e = its.any e by simp, k2]
  exact q
end L3
end
section
namespace L3
open PySem PySem.Spec PyProof.Rows L2
abbrev IsZ2 (h : Heap) (z TI TO : Addr) (f0 f1 : Value) : Prop :=
  h.get? z = some { cls := .type "zip", dict := none, data := .fields #[f0, f1, .bool false, .ref TI, .ref TO], slots := #[] }
def ZG (h : Heap) (z TI TO : Addr) : Prop := ∃ f0 f1, IsZ2 h z TI TO f0 f1 ∧ (f0 = .none ∨ ∃ a t, f0 = .int a t)
theorem ZG.up {h h' : Heap} {z TI TO : Addr} (g : ZG h z TI TO) (k : ∀ o, h.get? z = some o → h'.get? z = some o) : ZG h' z TI TO :=
  let ⟨f0, f1, a, b⟩ := g
  ⟨f0, f1, k _ a, b⟩
section
variable {prog : Program} {w : World} {A : Around} {E : Value → Shared → Prop} {s : Shared}
theorem if_alive {a : Addr} {Q : Option Obj → Shared → Prop} (h : Q (s.heap.get? a) s) : wpAny (model prog w) A (loadIfAlive a) Q E s := by
  intro Γ p _
  show Sem.wp _ _ (.loadIfAlive a .pure) _ _ _ _
  rw [Sem.wp_loadIfAlive]
  simpa using h
theorem owned_free {z TI TO : Addr} {Q : Bool → Shared → Prop} (g : ZG s.heap z TI TO) (hQ : ∀ b h', ZG h' z TI TO → Heap.SameBut z s.heap h' → Q b { s with heap := h' }) :
    wpAny (model prog w) A (Builtin.SmallTypes.ownedTupleIsFree (.ref z)) Q E s := by
  obtain ⟨f0, f1, g, k⟩ := g
  unfold Builtin.SmallTypes.ownedTupleIsFree
  refine wpAny_bind (wpAny_field g rfl (x := f0) rfl ?_)
  have same : Heap.SameBut z s.heap s.heap := ⟨rfl, fun _ _ => rfl⟩
  rcases k with rfl | ⟨a, t, rfl⟩
  · exact wpAny_pure (hQ _ s.heap ⟨_, _, g, .inl rfl⟩ same)
  · show wpAny _ _ (loadIfAlive a.toNat >>= _) _ _ _
    refine wpAny_bind (if_alive ?_)
    by_cases h1 : (s.heap.get? a.toNat).isNone = true
    · rw [if_pos h1]
      exact wpAny_pure (hQ _ s.heap ⟨_, _, g, .inr ⟨_, _, rfl⟩⟩ same)
    · rw [if_neg h1]
      refine wpAny_bind (wpAny_field g rfl (x := f1) rfl ?_)
      by_cases h2 : (f1 != Value.bool true) = true
      · rw [if_pos h2]
        refine wpAny_bind (wpAny_setField_rec g (by simp) fun h' g' sb => wpAny_pure (hQ _ h' ⟨_, _, g', .inr ⟨_, _, rfl⟩⟩ sb))
      · rw [if_neg h2]
        exact wpAny_pure (hQ _ s.heap ⟨_, _, g, .inr ⟨_, _, rfl⟩⟩ same)
variable {z TI TO i1 i2 : Addr} {f1 f2 : List Addr} {n1 n2 : Nat} {P1 P2 : Nat → Value → Prop} {S1 S2 : Nat → Heap → Prop}
theorem zip_stepG {i : Nat} {a b : Value} {Q : Value → Shared → Prop} (D1 : Draws prog w A i1 f1 n1 P1 S1) (D2 : Draws prog w A i2 f2 n2 P2 S2) (ap : ZApart z TI TO i1 i2 f1 f2)
    (gz : ZG s.heap z TI TO) (gTI : IsPair s.heap TI (.ref i1) (.ref i2)) (gTO : IsPair s.heap TO a b) (s1 : S1 i s.heap) (s2 : S2 i s.heap) (l1 : i < n1) (l2 : i < n2)
    (hQ : ∀ x y h' tk, P1 i x → P2 i y → ZG h' z TI TO → (∃ u v, IsPair h' TO u v) → S1 (i + 1) h' → S2 (i + 1) h' → IsPair h' s.heap.objs.size x y → h'.objs.size = s.heap.objs.size + 1 →
      (∀ c o, c ≠ z → c ≠ TO → c ≠ i1 → c ≠ i2 → s.heap.get? c = some o → h'.get? c = some o) → Q (.ref s.heap.objs.size) { s with heap := h', toks := tk }) :
    wpAny (model prog w) A (Builtin.«zip.__next__» ⟨[.ref z], []⟩) (fun fin s' => ∃ v, fin = .done (.ret v) ∧ Q v s') E s := by
  have fr1 : ∀ {k : Nat} {h h' : Heap} {c : Addr}, c ∉ f1 → Heap.SameBut c h h' → S1 k h → S1 k h' := fun {k h h' c} hc sb st => D1.frame _ _ _ st fun q hq o e => (sb.2 q fun z => hc (z ▸ hq)).trans e
  have fr2 : ∀ {k : Nat} {h h' : Heap} {c : Addr}, c ∉ f2 → Heap.SameBut c h h' → S2 k h → S2 k h' := fun {k h h' c} hc sb st => D2.frame _ _ _ st fun q hq o e => (sb.2 q fun z => hc (z ▸ hq)).trans e
  obtain ⟨f0', f1', gz0, _⟩ := id gz
  show wpAny (model prog w) _ (field (.ref z) 2 >>= _) _ _ _
  refine wpAny_bind (wpAny_field gz0 rfl (x := .bool false) rfl ?_)
  show wpAny (model prog w) _ (field (.ref z) 3 >>= _) _ _ _
  refine wpAny_bind (wpAny_field gz0 rfl (x := .ref TI) rfl ?_)
  refine wpAny_bind (wpAny_seqItems gTI rfl ?_)
  show wpAny (model prog w) _ (Builtin.SmallTypes.ownedTupleIsFree (.ref z) >>= _) _ _ _
  refine wpAny_bind (owned_free gz fun b h0 gz b0 => ?_)
  clear gz0
  replace b0 : Heap.SameBut z s.heap h0 := b0
  have s1 := fr1 ap.zf1 b0 s1
  have s2 := fr2 ap.zf2 b0 s2
  have gTI : IsPair h0 TI (.ref i1) (.ref i2) := b0.extBut _ _ ap.TIz gTI
  have gTO := b0.extBut _ _ ap.TOz gTO
  obtain ⟨f0, f1, gz0, _⟩ := id gz
  cases b with
  | true =>
    simp only [if_true]
    refine wpAny_bind (wpAny_rule ?_)
    refine wpAny_bind (wpAny_field gz0 rfl (x := .ref TO) rfl ?_)
    refine wpAny_bind (wpAny_setField_rec gz0 (by simp) fun k1 z1 b1 => ?_)
    replace z1 : IsZ2 k1 z TI TO .ellipsis f1 := z1
    refine wpAny_bind ?_
    simp only [List.zipIdx_cons, List.zipIdx_nil, List.forIn_cons, List.forIn_nil]
    refine wpAny_bind (wpAny_bind (wpAny_onRaise ?_))
    show wpAny (model prog w) _ (Builtin.SmallTypes.nextOf (.ref i1) >>= _) _ _ _
    refine wpAny_bind (D1.item i _ _ _ l1 (fr1 ap.zf1 b1 s1) fun x k2 t2 px q2 b2 => wpAny_pure ?_)
    have o2 := b2.extBut _ _ ap.TO1 (b1.extBut _ _ ap.TOz gTO)
    refine wpAny_bind (wpAny_seqItems o2 rfl ?_)
    refine wpAny_bind (wpAny_updateSeq_pair o2 fun k3 o3 b3 => ?_)
    refine wpAny_bind (wpAny_letGo (wpAny_pure ?_))
    refine wpAny_bind (wpAny_bind (wpAny_onRaise ?_))
    show wpAny (model prog w) _ (Builtin.SmallTypes.nextOf (.ref i2) >>= _) _ _ _
    refine wpAny_bind (D2.item i _ _ _ l2 (fr2 ap.Tf2 b3 (fr2 ap.i1f2 b2 (fr2 ap.zf2 b1 s2))) fun y k4 t4 py q4 b4 => wpAny_pure ?_)
    have o4 := b4.extBut _ _ ap.TO2 o3
    refine wpAny_bind (wpAny_seqItems o4 rfl ?_)
    refine wpAny_bind (wpAny_updateSeq_pair o4 fun k5 o5 b5 => ?_)
    replace o5 : IsPair k5 TO x y := o5
    refine wpAny_bind (wpAny_letGo (wpAny_pure (wpAny_pure ?_)))
    refine wpAny_bind (wpAny_seqItems o5 rfl ?_)
    refine wpAny_bind (wpAny_newTuple ?_)
    have sz : k5.objs.size = s.heap.objs.size := by rw [b5.1, b4.1, b3.1, b2.1, b1.1, b0.1]
    have z5 : IsZ2 k5 z TI TO .ellipsis f1 := b5.extBut _ _ ap.TOz.symm (b4.extBut _ _ ap.i2z.symm (b3.extBut _ _ ap.TOz.symm (b2.extBut _ _ ap.i1z.symm z1)))
    have kp : ∀ c o, c ≠ z → c ≠ TO → c ≠ i1 → c ≠ i2 → s.heap.get? c = some o → k5.get? c = some o := fun c o c1 c2 c3 c4 e =>
      b5.extBut _ _ c2 (b4.extBut _ _ c4 (b3.extBut _ _ c2 (b2.extBut _ _ c3 (b1.extBut _ _ c1 (b0.extBut _ _ c1 e)))))
    have q1' : S1 (i + 1) k5 := fr1 ap.Tf1 b5 (fr1 ap.i2f1 b4 (fr1 ap.Tf1 b3 q2))
    have q2' : S2 (i + 1) k5 := fr2 ap.Tf2 b5 q4
    have lz : z < k5.objs.size := Heap.lt_size z5
    show wpAny (model prog w) _ (Builtin.SmallTypes.ownedTupleHandOut (.ref z) (.ref k5.objs.size) >>= _) _ _ _
    refine wpAny_bind ?_
    unfold Builtin.SmallTypes.ownedTupleHandOut
    have z6 : IsZ2 (k5.push { cls := .type "tuple", data := .seq #[x, y] }) z TI TO .ellipsis f1 := Heap.get?_push_of_some _ z5
    refine wpAny_bind (wpAny_setField_rec z6 (by simp) fun k7 z7 b7 => ?_)
    replace z7 : IsZ2 k7 z TI TO (rawInt k5.objs.size) f1 := z7
    refine wpAny_setField_rec z7 (by simp) fun k8 z8 b8 => ?_
    replace z8 : IsZ2 k8 z TI TO (rawInt k5.objs.size) (.bool false) := z8
    have up : ∀ c o, c ≠ z → k5.get? c = some o → k8.get? c = some o := fun c o c1 e => b8.extBut _ _ c1 (b7.extBut _ _ c1 (Heap.get?_push_of_some _ e))
    have t8 : IsPair k8 k5.objs.size x y := b8.extBut _ _ (Nat.ne_of_gt lz) (b7.extBut _ _ (Nat.ne_of_gt lz) (Heap.get?_push_size _ rfl))
    have s8 : k8.objs.size = s.heap.objs.size + 1 := by rw [b8.1, b7.1]; show (k5.push _).objs.size = _; rw [Heap.size_push, sz]
    rw [sz] at t8
    refine wpAny_pure ⟨_, rfl, ?_⟩
    show Q (.ref k5.objs.size) _
    rw [sz]
    exact hQ x y k8 _ px py ⟨_, _, z8, .inr ⟨_, _, rfl⟩⟩ ⟨_, _, up _ _ ap.TOz o5⟩ (D1.frame _ _ _ q1' fun q hq o e => up q o (fun z => ap.zf1 (z ▸ hq)) e) (D2.frame _ _ _ q2' fun q hq o e => up q o (fun z => ap.zf2 (z ▸ hq)) e) t8 s8 fun c o c1 c2 c3 c4 e => up c o c1 (kp c o c1 c2 c3 c4 e)
  | false =>
    rw [if_neg (by simp)]
    refine wpAny_bind ?_
    simp only [← Array.forIn_toList, List.forIn_cons, List.forIn_nil]
    refine wpAny_bind (wpAny_bind (wpAny_holding ?_))
    show wpAny (model prog w) _ (Builtin.SmallTypes.nextOf (.ref i1) >>= _) _ _ _
    refine wpAny_bind (D1.item i _ _ _ l1 s1 fun x k2 t2 px q2 b2 => wpAny_pure (wpAny_pure ?_))
    refine wpAny_bind (wpAny_bind (wpAny_holding ?_))
    show wpAny (model prog w) _ (Builtin.SmallTypes.nextOf (.ref i2) >>= _) _ _ _
    refine wpAny_bind (D2.item i _ _ _ l2 (fr2 ap.i1f2 b2 s2) fun y k4 t4 py q4 b4 => wpAny_pure (wpAny_pure (wpAny_pure ?_)))
    refine wpAny_bind (wpAny_newTuple (hsz := by show 2 ≤ sizeLine; decide) (wpAny_pure ⟨_, rfl, ?_⟩))
    have sz : k4.objs.size = s.heap.objs.size := by rw [b4.1, b2.1, b0.1]
    have up : ∀ c o, c ≠ i1 → c ≠ i2 → h0.get? c = some o → (k4.push { cls := .type "tuple", data := .seq #[x, y] }).get? c = some o := fun c o c3 c4 e => Heap.get?_push_of_some _ (b4.extBut _ _ c4 (b2.extBut _ _ c3 e))
    have t8 : IsPair (k4.push { cls := .type "tuple", data := .seq #[x, y] }) k4.objs.size x y := Heap.get?_push_size _ rfl
    rw [sz] at t8
    show Q (.ref k4.objs.size) _
    rw [sz]
    exact hQ x y _ _ px py (gz.up fun o e => up _ _ ap.i1z.symm ap.i2z.symm e) ⟨_, _, up _ _ ap.TO1 ap.TO2 gTO⟩ (D1.frame _ _ _ (fr1 ap.i2f1 b4 q2) fun q hq o e => Heap.get?_push_of_some _ e) (D2.frame _ _ _ q4 fun q hq o e => Heap.get?_push_of_some _ e) t8 (by rw [Heap.size_push, sz]) fun c o c1 c2 c3 c4 e => up c o c3 c4 (b0.extBut _ _ c1 e)
theorem zip_doneG {a b : Value} {Q : Fin → Shared → Prop} (D1 : Draws prog w A i1 f1 n1 P1 S1) (ap : ZApart z TI TO i1 i2 f1 f2)
    (gz : ZG s.heap z TI TO) (gTI : IsPair s.heap TI (.ref i1) (.ref i2)) (gTO : IsPair s.heap TO a b) (s1 : S1 n1 s.heap)
    (hE : ∀ h' e, (∀ c o, c ≠ z → c ≠ TO → c ≠ i1 → c ≠ i2 → s.heap.get? c = some o → h'.get? c = some o) → (∃ o, h'.get? e = some o ∧ o.cls = .type "StopIteration") → E (.ref e) { s with heap := h' }) :
    wpAny (model prog w) A (Builtin.«zip.__next__» ⟨[.ref z], []⟩) Q E s := by
  obtain ⟨f0', f1', gz0, _⟩ := id gz
  show wpAny (model prog w) _ (field (.ref z) 2 >>= _) _ _ _
  refine wpAny_bind (wpAny_field gz0 rfl (x := .bool false) rfl ?_)
  show wpAny (model prog w) _ (field (.ref z) 3 >>= _) _ _ _
  refine wpAny_bind (wpAny_field gz0 rfl (x := .ref TI) rfl ?_)
  refine wpAny_bind (wpAny_seqItems gTI rfl ?_)
  show wpAny (model prog w) _ (Builtin.SmallTypes.ownedTupleIsFree (.ref z) >>= _) _ _ _
  refine wpAny_bind (owned_free gz fun b h0 gz b0 => ?_)
  clear gz0
  replace b0 : Heap.SameBut z s.heap h0 := b0
  have s1 : S1 n1 h0 := D1.frame _ _ _ s1 fun q hq o e => (b0.2 q fun y => ap.zf1 (y ▸ hq)).trans e
  obtain ⟨f0, f1, gz0, _⟩ := id gz
  cases b with
  | true =>
    simp only [if_true]
    refine wpAny_bind (wpAny_rule ?_)
    refine wpAny_bind (wpAny_field gz0 rfl (x := .ref TO) rfl ?_)
    refine wpAny_bind (wpAny_setField_rec gz0 (by simp) fun k1 z1 b1 => ?_)
    replace z1 : IsZ2 k1 z TI TO .ellipsis f1 := z1
    refine wpAny_bind ?_
    simp only [List.zipIdx_cons, List.zipIdx_nil, List.forIn_cons, List.forIn_nil]
    refine wpAny_bind (wpAny_bind (wpAny_onRaise ?_))
    show wpAny (model prog w) _ (Builtin.SmallTypes.nextOf (.ref i1) >>= _) _ _ _
    refine wpAny_bind (D1.done _ _ _ (D1.frame _ _ _ s1 fun q hq o e => (b1.2 q fun y => ap.zf1 (y ▸ hq)).trans e) fun k2 e b2 he => ?_)
    obtain ⟨oe, ee, ce⟩ := he
    have z2 : IsZ2 k2 z TI TO .ellipsis f1 := b2 _ _ ap.i1z.symm z1
    have nz : e ≠ z := fun q => by
      subst q
      rw [z2] at ee
      cases ee
      simp at ce
    refine wpAny_setField_rec z2 (by simp) fun k3 _ b3 => hE k3 e (fun c o c1 _ c3 _ q => b3.extBut _ _ c1 (b2 _ _ c3 (b1.extBut _ _ c1 (b0.extBut _ _ c1 q)))) ⟨oe, b3.extBut _ _ nz ee, ce⟩
  | false =>
    rw [if_neg (by simp)]
    refine wpAny_bind ?_
    simp only [← Array.forIn_toList, List.forIn_cons, List.forIn_nil]
    refine wpAny_bind (wpAny_bind (wpAny_holding ?_))
    show wpAny (model prog w) _ (Builtin.SmallTypes.nextOf (.ref i1) >>= _) _ _ _
    refine wpAny_bind (D1.done _ _ _ s1 fun k2 e b2 he => ?_)
    exact hE k2 e (fun c o c1 _ c3 _ q => b2 _ _ c3 (b0.extBut _ _ c1 q)) he
theorem nx_zip {i : Nat} {a b : Value} {Q : Value → Shared → Prop} (D1 : Draws prog w A.in1 i1 f1 n1 P1 S1) (D2 : Draws prog w A.in1 i2 f2 n2 P2 S2) (ap : ZApart z TI TO i1 i2 f1 f2)
    (gz : ZG s.heap z TI TO) (gTI : IsPair s.heap TI (.ref i1) (.ref i2)) (gTO : IsPair s.heap TO a b) (s1 : S1 i s.heap) (s2 : S2 i s.heap) (l1 : i < n1) (l2 : i < n2)
    (hQ : ∀ x y h' tk, P1 i x → P2 i y → ZG h' z TI TO → (∃ u v, IsPair h' TO u v) → S1 (i + 1) h' → S2 (i + 1) h' → IsPair h' s.heap.objs.size x y → h'.objs.size = s.heap.objs.size + 1 →
      (∀ c o, c ≠ z → c ≠ TO → c ≠ i1 → c ≠ i2 → s.heap.get? c = some o → h'.get? c = some o) → Q (.ref s.heap.objs.size) { s with heap := h', toks := tk }) :
    wpAny (model prog w) A (Builtin.SmallTypes.nextOf (.ref z)) Q E s := by
  have ty : s.TypeIs (.ref z) "zip" := let ⟨_, _, g, _⟩ := gz; ⟨_, g, rfl⟩
  unfold Builtin.SmallTypes.nextOf
  refine wpAny_bind (wpAny_callSpecial?_slot (name := Str.ofString "__next__") ty F.slot_zip_next (wpAny_call_entry F.slot_zip_next ty F.entry_zip_next ?_ (F.args_zip_next_1 _)))
  exact zip_stepG D1 D2 ap gz gTI gTO s1 s2 l1 l2 fun x y h' tk a1 a2 a3 a4 a5 a6 a7 a8 a9 => wpAny_pure (hQ x y h' tk a1 a2 a3 a4 a5 a6 a7 a8 a9)
theorem nx_zip_end {a b : Value} {Q : Value → Shared → Prop} (D1 : Draws prog w A.in1 i1 f1 n1 P1 S1) (ap : ZApart z TI TO i1 i2 f1 f2)
    (gz : ZG s.heap z TI TO) (gTI : IsPair s.heap TI (.ref i1) (.ref i2)) (gTO : IsPair s.heap TO a b) (s1 : S1 n1 s.heap)
    (hE : ∀ h' e, (∀ c o, c ≠ z → c ≠ TO → c ≠ i1 → c ≠ i2 → s.heap.get? c = some o → h'.get? c = some o) → (∃ o, h'.get? e = some o ∧ o.cls = .type "StopIteration") → E (.ref e) { s with heap := h' }) :
    wpAny (model prog w) A (Builtin.SmallTypes.nextOf (.ref z)) Q E s := by
  have ty : s.TypeIs (.ref z) "zip" := let ⟨_, _, g, _⟩ := gz; ⟨_, g, rfl⟩
  unfold Builtin.SmallTypes.nextOf
  exact wpAny_bind (wpAny_callSpecial?_slot (name := Str.ofString "__next__") ty F.slot_zip_next (wpAny_call_entry F.slot_zip_next ty F.entry_zip_next (zip_doneG D1 ap gz gTI gTO s1 hE) (F.args_zip_next_1 _)))
theorem enum_stepG {e it : Addr} {i : Nat} {old : Value} {fp : List Addr} {R : Value → Heap → Prop} {Q : Value → Shared → Prop} (he : IsEnum s.heap e it i old) (hef : e ∉ fp)
    (src : ∀ Q0 : Value → Shared → Prop, (∀ x h' tk, R x h' → h'.objs.size = s.heap.objs.size + 1 → (∀ b o, b ∉ fp → s.heap.get? b = some o → h'.get? b = some o) → Q0 x { s with heap := h', toks := tk }) → wpAny (model prog w) A (Builtin.SmallTypes.nextOf (.ref it)) Q0 E s)
    (hQ : ∀ x h1 h' tk, R x h1 → IsEnumOut h' e it ((i : Int) + 1) x (s.heap.objs.size + 1) → h1.objs.size = s.heap.objs.size + 1 → (∀ b o, b ∉ fp → s.heap.get? b = some o → h1.get? b = some o) →
      h'.get? (s.heap.objs.size + 1) = some { cls := .type "tuple", data := .seq #[.int i tk, x] } →
      (∀ b o, b ≠ e → h1.get? b = some o → h'.get? b = some o) → Q (.ref (s.heap.objs.size + 1)) { s with heap := h', toks := tk + 1 }) :
    wpAny (model prog w) A (Builtin.«enumerate.__next__» ⟨[.ref e], []⟩) (fun fin s' => ∃ v, fin = .done (.ret v) ∧ Q v s') E s := by
  obtain ⟨hp, g, d, tk₀, os⟩ := s
  show wpAny _ _ (field (.ref e) 2 >>= _) _ _ _
  refine wpAny_bind (wpAny_field he rfl (x := .ref it) rfl ?_)
  refine wpAny_bind (src _ fun x h₁ tk hR hs₁ kp₁ => ?_)
  replace hs₁ : h₁.objs.size = hp.objs.size + 1 := hs₁
  have he₁ : IsEnum h₁ e it i old := kp₁ _ _ hef he
  show wpAny _ _ (field (.ref e) 3 >>= _) _ _ ⟨h₁, g, d, tk, os⟩
  refine wpAny_bind (wpAny_field he₁ rfl (x := rawInt i) rfl ?_)
  show wpAny _ _ (field (.ref e) 4 >>= _) _ _ ⟨h₁, g, d, tk, os⟩
  refine wpAny_bind (wpAny_field he₁ rfl (x := .none) rfl ?_)
  show wpAny _ _ (mkInt i >>= _) _ _ ⟨h₁, g, d, tk, os⟩
  refine wpAny_bind (wpAny_mkInt ?_)
  show wpAny _ _ (setField (.ref e) 3 (rawInt ((i : Int) + 1)) >>= _) _ _ ⟨h₁, g, d, tk + 1, os⟩
  refine wpAny_bind (wpAny_setField_rec he₁ (by simp) fun h₂ he₂ hs₂ => ?_)
  replace hs₂ : Heap.SameBut e h₁ h₂ := hs₂
  replace he₂ : IsEnum h₂ e it ((i : Int) + 1) old := he₂
  show wpAny _ _ (setField (.ref e) 4 .none >>= _) _ _ ⟨h₂, g, d, tk + 1, os⟩
  refine wpAny_bind (wpAny_setField_rec he₂ (by simp) fun h₃ he₃ hs₃ => ?_)
  replace hs₃ : Heap.SameBut e h₂ h₃ := hs₃
  replace he₃ : IsEnum h₃ e it ((i : Int) + 1) old := he₃
  show wpAny _ _ (newTuple [.int i tk, x] >>= _) _ _ ⟨h₃, g, d, tk + 1, os⟩
  refine wpAny_bind (wpAny_newTuple ?_)
  have he₄ : IsEnum (h₃.push { cls := .type "tuple", data := .seq #[.int i tk, x] }) e it ((i : Int) + 1) old := Heap.get?_push_of_some _ he₃
  generalize hh₄ : h₃.push { cls := .type "tuple", data := .seq #[.int i tk, x] } = h₄ at he₄
  have hsz : h₃.objs.size = hp.objs.size + 1 := by rw [hs₃.1, hs₂.1, hs₁]
  have hel : e < hp.objs.size := Heap.lt_size he
  have hel' : hp.objs.size + 1 ≠ e := Nat.ne_of_gt (Nat.lt_succ_of_lt hel)
  have ht₄ : h₄.get? (hp.objs.size + 1) = some { cls := .type "tuple", data := .seq #[.int i tk, x] } := by rw [← hh₄, ← hsz]; exact Heap.get?_push_size _ rfl
  have hk₄ : ∀ b o, b ≠ e → h₁.get? b = some o → h₄.get? b = some o := fun b o hbe hb => by
    rw [← hh₄]; exact Heap.get?_push_of_some _ (hs₃.extBut b o hbe (hs₂.extBut b o hbe hb))
  show wpAny _ _ (Builtin.SmallTypes.ownedTupleIsFree (.ref e) >>= _) _ _ ⟨h₄, g, d, tk + 1, os⟩
  rw [hsz]
  clear hh₄ he₃ hs₃ he₂ hs₂ he₁ hsz
  refine wpAny_bind ?_
  unfold Builtin.SmallTypes.ownedTupleIsFree
  refine wpAny_bind (wpAny_field he₄ rfl (x := .none) rfl (wpAny_pure ?_))
  simp only [if_true]
  refine wpAny_bind (wpAny_rule ?_)
  refine wpAny_bind (wpAny_field he₄ rfl (x := old) rfl ?_)
  refine wpAny_bind (wpAny_setField_rec he₄ (by simp) fun h₅ he₅ hs₅ => ?_)
  replace hs₅ : Heap.SameBut e h₄ h₅ := hs₅
  replace he₅ : IsEnum h₅ e it ((i : Int) + 1) x := he₅
  show wpAny _ _ (Builtin.SmallTypes.ownedTupleHandOut (.ref e) (.ref (hp.objs.size + 1)) >>= _) _ _ ⟨h₅, g, d, tk + 1, os⟩
  refine wpAny_bind ?_
  unfold Builtin.SmallTypes.ownedTupleHandOut
  refine wpAny_bind (wpAny_setField_rec he₅ (by simp) fun h₆ he₆ hs₆ => ?_)
  replace hs₆ : Heap.SameBut e h₅ h₆ := hs₆
  replace he₆ : IsEnumOut h₆ e it ((i : Int) + 1) x (hp.objs.size + 1) := he₆
  refine wpAny_setField_rec he₆ (by simp) fun h₇ he₇ hs₇ => ?_
  replace hs₇ : Heap.SameBut e h₆ h₇ := hs₇
  replace he₇ : IsEnumOut h₇ e it ((i : Int) + 1) x (hp.objs.size + 1) := he₇
  refine wpAny_bind (wpAny_letGo (wpAny_pure ⟨_, rfl, hQ x h₁ h₇ tk hR he₇ hs₁ kp₁ ?_ ?_⟩))
  · exact hs₇.extBut _ _ hel' (hs₆.extBut _ _ hel' (hs₅.extBut _ _ hel' ht₄))
  · exact fun b o hbe hb => hs₇.extBut b o hbe (hs₆.extBut b o hbe (hs₅.extBut b o hbe (hk₄ b o hbe hb)))
end
theorem meets_enumerate_newZ (z TI TO : Addr) :
    Meets (Builtin.«enumerate.__new__» ⟨[.type "enumerate", .ref z], []⟩) (fun _ R s => IsZip s.heap z TI TO .none ∧
      R (.ok (.ret (.ref s.heap.objs.size))) { s with heap := s.heap.push { cls := .type "enumerate", data := .fields #[.none, .bool false, .ref z, rawInt 0, .none, .none] } }) :=
  .of_wp fun prog w A R s h => by
    obtain ⟨hp, g, d, tk, os⟩ := s; obtain ⟨hl, h⟩ := h
    have hsub := sub_enumerate
    have hL : IsZip (Shared.heap ⟨hp, g, d, tk, os⟩) z TI TO .none := hl
    wp_walk using AutoSeq1.wpAny_loadPart' hl
    refine wpAny_stack_any fun st => wpAny_pure ?_
    split
    · rename_i c _ _ _ _ _
      cases (c == Value.type "enumerate")
      · wp_walk using AutoSeq1.wpAny_loadPart' hl, wpAny_pyIter_zip hL
        exact ⟨_, rfl, h⟩
      · wp_walk using AutoSeq1.wpAny_loadPart' hl, wpAny_pyIter_zip hL
        exact ⟨_, rfl, h⟩
    · wp_walk using AutoSeq1.wpAny_loadPart' hl, wpAny_pyIter_zip hL
      exact ⟨_, rfl, h⟩
theorem call_enumZ {prog : Program} {w : World} {A : Around} {E : Value → Shared → Prop} {s : Shared} {z TI TO : Addr} {Q : Value → Shared → Prop} (hL : IsZip s.heap z TI TO .none)
    (h : ∀ h', IsEnum h' s.heap.objs.size z 0 .none → (∀ b o, s.heap.get? b = some o → h'.get? b = some o) → Q (.ref s.heap.objs.size) { s with heap := h' }) :
    wpAny (model prog w) A (call (.type "enumerate") [.ref z]) Q E s := by
  refine callType_new F.called_enumerate (by decide) (F.typeCall_enumerate_1 _) (F.newCall_enumerate_1 _) (fun obj => F.args_object_init_2 obj _) F.entry_enumerate_new (meets_enumerate_newZ z TI TO) ⟨hL, ?_⟩
  have he : IsEnum (s.heap.push { cls := .type "enumerate", data := .fields #[.none, .bool false, .ref z, rawInt 0, .none, .none] }) s.heap.objs.size z 0 .none := Heap.get?_push_size _ rfl
  exact ⟨⟨_, he, rfl⟩, h _ he fun b o x => Heap.get?_push_of_some _ x⟩
def Itez (K : PySem.W.Frag) (a b : Addr) : It :=
  ⟨fun i H => ∃ xs ys x y, SqL K H a xs ∧ SqL K H b ys ∧ xs[i]? = some x ∧ ys[i]? = some y,
   fun i H v H' => ∃ q p x y, v = .ref p ∧ H q = none ∧ p ≠ q ∧ H p = none ∧ H' = upd (upd H q (.tup [x, y])) p (.tup [.int i, .ref q]) ∧ ∀ xs ys, SqL K H a xs → SqL K H b ys → xs[i]? = some x ∧ ys[i]? = some y,
   fun i H => ∃ xs ys, SqL K H a xs ∧ SqL K H b ys ∧ xs.length = i⟩
structure ERecZ (a b e z TI TO i1 i2 : Addr) (i : Nat) (h : Heap) : Prop where
  e : ∃ old, IsEnum h e z i old
  z : ZG h z TI TO
  TI : IsPair h TI (.ref i1) (.ref i2)
  TO : ∃ u v, IsPair h TO u v
  i1 : h.IsListIter i1 a i
  i2 : h.IsListIter i2 b i
theorem turn_enumZ {P : Program} {w : World} {K : PySem.W.Frag} {es : List Expr} {k : Nat} {pos : Pos} (a b n : Nat) :
    Turn P w K (.Tuple es k pos) (Itez K a b) [n + 5, n + 4, n + 2, n + 3, n, n + 1] (n + 5) (ERecZ a b (n + 5) (n + 4) (n + 2) (n + 3) n (n + 1)) where
  mem := by simp
  obj := fun i h st c hc => by
    simp only [List.mem_cons, List.not_mem_nil, or_false] at hc
    obtain ⟨o1, e1, _, d1⟩ := st.i1
    obtain ⟨o2, e2, _, d2⟩ := st.i2
    obtain ⟨u, v, eo⟩ := st.TO
    obtain ⟨old, ee⟩ := st.e
    obtain ⟨_, _, ez, _⟩ := st.z
    rcases hc with rfl | rfl | rfl | rfl | rfl | rfl
    · exact ⟨_, ee, fun v q => by cases q⟩
    · exact ⟨_, ez, fun v q => by cases q⟩
    · exact ⟨_, st.TI, fun v q => by cases q⟩
    · exact ⟨_, eo, fun v q => by cases q⟩
    · exact ⟨o1, e1, fun v q => by rw [d1] at q; cases q⟩
    · exact ⟨o2, e2, fun v q => by rw [d2] at q; cases q⟩
  keep := fun i h h' st kp => by
    obtain ⟨o1, e1, r1⟩ := st.i1
    obtain ⟨o2, e2, r2⟩ := st.i2
    obtain ⟨u, v, eo⟩ := st.TO
    obtain ⟨old, ee⟩ := st.e
    exact ⟨⟨old, kp _ (by simp) _ ee⟩, st.z.up (kp _ (by simp)), kp _ (by simp) _ st.TI, ⟨u, v, kp _ (by simp) _ eo⟩, ⟨o1, kp _ (by simp) _ e1, r1⟩, ⟨o2, kp _ (by simp) _ e2, r2⟩⟩
  item := by
    intro X hP hw hK hc i pins s σ H E I hf st hg
    subst hP hw hK
    obtain ⟨xs, ys, x, y, q1, q2, hx, hy⟩ := hg
    obtain ⟨its1, rv1, p1, _⟩ := I.list q1
    obtain ⟨its2, rv2, p2, _⟩ := I.list q2
    obtain ⟨u1, hu1, ru1⟩ := rv1.get hx
    obtain ⟨u2, hu2, ru2⟩ := rv2.get hy
    obtain ⟨u, v, eo⟩ := st.TO
    obtain ⟨old, ee⟩ := st.e
    have ltz := Heap.lt_size ee
    have l1 : i < its1.toArray.size := by rw [List.size_toArray]; exact (List.getElem?_eq_some_iff.mp hu1).1
    have l2 : i < its2.toArray.size := by rw [List.size_toArray]; exact (List.getElem?_eq_some_iff.mp hu2).1
    have na : ∀ d ∈ [n + 5, n + 4, n + 2, n + 3, n, n + 1], a ≠ d := fun d hd => sq_neL I q1 (hf d hd)
    have nb : ∀ d ∈ [n + 5, n + 4, n + 2, n + 3, n, n + 1], b ≠ d := fun d hd => sq_neL I q2 (hf d hd)
    have nh : ∀ d ∈ [n + 5, n + 4, n + 2, n + 3, n, n + 1], d ∉ hAdr X.A.in1.in1 := fun d hd z => I.hna hc (hf d hd).2.2.2.1 (hf d hd).2.2.2.2.2 d (mem_hAdr z) rfl
    have ap : ZApart (n + 4) (n + 2) (n + 3) n (n + 1) (n :: a :: hAdr X.A.in1.in1) ((n + 1) :: b :: hAdr X.A.in1.in1) := by
      have a1 := na (n + 4) (by simp)
      have a2 := na (n + 3) (by simp)
      have a3 := na (n + 1) (by simp)
      have b1 := nb (n + 4) (by simp)
      have b2 := nb (n + 3) (by simp)
      have b3 := nb n (by simp)
      constructor <;> (try simp only [List.mem_cons, not_or]) <;> first | omega | exact ⟨by omega, by omega, nh _ (by simp)⟩
    have ha1 : ∀ d ∈ [n + 5, n + 4, n + 2, n + 3, n, n + 1], ∀ a, X.A.in1.in1.handled = some (.ref a) → a ≠ d := fun d hd => I.hna hc (hf d hd).2.2.2.1 (hf d hd).2.2.2.2.2
    have ty : s.TypeIs (.ref (n + 5)) "enumerate" := ⟨_, ee, rfl⟩
    unfold pyNext
    refine wpAny_bind (wpAny_attempt (wpAny_callSpecial?_slot (name := Str.ofString "__next__") ty F.slot_enumerate_next (wpAny_call_entry F.slot_enumerate_next ty F.entry_enumerate_next ?_ (F.args_enumerate_next_1 _))))
    refine enum_stepG (A := X.A.in1) (fp := [n + 4, n + 3, n, n + 1]) (R := fun v h' => v = .ref s.heap.objs.size ∧ ZG h' (n + 4) (n + 2) (n + 3) ∧ (∃ u v, IsPair h' (n + 3) u v) ∧ h'.IsListIter n a (i + 1) ∧ h'.IsListIter (n + 1) b (i + 1) ∧ IsPair h' s.heap.objs.size u1 u2) ee (by simp) (fun Q0 hq => ?_) fun v0 h0 h1 tk ⟨ev, z0, o0, j1, j2, pr⟩ eo1 sz0 kp0 pt kp1 => wpAny_pure ⟨_, rfl, ?_⟩
    · refine nx_zip (draws_lst n a (na n (by simp)) (ha1 n (by simp)) its1.toArray) (draws_lst (n + 1) b (nb (n + 1) (by simp)) (ha1 (n + 1) (by simp)) its2.toArray) ap st.z st.TI eo ⟨st.i1, p1.isList, I.hb hc⟩ ⟨st.i2, p2.isList, I.hb hc⟩ l1 l2 fun x' y' h1 tk e1 e2 z1 o1 s1 s2 pr sz kp => ?_
      have e1 : its1.toArray[i]? = some x' := e1
      have e2 : its2.toArray[i]? = some y' := e2
      have ex : u1 = x' := by
        rw [List.getElem?_toArray, hu1] at e1
        exact Option.some.inj e1
      have ey : u2 = y' := by
        rw [List.getElem?_toArray, hu2] at e2
        exact Option.some.inj e2
      subst ex ey
      exact hq _ h1 tk ⟨rfl, z1, o1, s1.1, s2.1, pr⟩ sz fun c o hc' e => by
        simp only [List.mem_cons, List.not_mem_nil, or_false, not_or] at hc'
        exact kp c o hc'.1 hc'.2.1 hc'.2.2.1 hc'.2.2.2 e
    · subst ev
      refine wpAny_letOwnedTupleGo_enum (s := { s with heap := h1, toks := tk + 1 }) eo1 fun h2 z2 sb => ?_
      have lt : ∀ d ∈ [n + 5, n + 4, n + 2, n + 3, n, n + 1], d < s.heap.objs.size := fun d hd => by
        have : d ≤ n + 5 := by simp at hd; omega
        exact Nat.lt_of_le_of_lt this ltz
      have up : ∀ c o, c ≠ n + 5 → h0.get? c = some o → h2.get? c = some o := fun c o hc' e => (sb.2 c hc').trans (kp1 c o hc' e)
      have I0 : Inv X pins σ (upd H s.heap.objs.size (.tup [x, y])) { s with heap := h0, toks := tk } := turnedNew (s := s) (h' := h0) (t' := tk) (ch := [n + 4, n + 3, n, n + 1]) (T := s.heap.objs.size) (o := .tup [x, y]) I kp0 (fun d hd => hf d (by simp only [List.mem_cons, List.not_mem_nil, or_false] at hd ⊢; rcases hd with z | z | z | z <;> simp [z])) (Nat.le_refl _) ⟨(by show 2 ≤ sizeLine; decide), [u1, u2], .cons ru1 (.cons ru2 .nil), ⟨_, pr, rfl, _, rfl⟩⟩
      have hn : H (s.heap.objs.size + 1) = none := I.hok.fresh (Nat.le_succ _)
      have hf5 : FpOk X pins (upd H s.heap.objs.size (.tup [x, y])) (n + 5) := ⟨by rw [upd_ne (Nat.ne_of_lt ltz)]; exact (hf _ (by simp)).1, (hf _ (by simp)).2⟩
      have ptT : h2.get? (s.heap.objs.size + 1) = some { cls := .type "tuple", data := .seq #[.int i tk, .ref s.heap.objs.size] } := (sb.2 _ (Nat.ne_of_gt (Nat.lt_succ_of_lt ltz))).trans pt
      refine ⟨.ref (s.heap.objs.size + 1), _, turnedNew (s := { s with heap := h0, toks := tk }) (h' := h2) (t' := tk + 1) (ch := [n + 5]) (T := s.heap.objs.size + 1) (o := .tup [.int i, .ref s.heap.objs.size]) I0 (fun c o hc' e => up c o (by simpa using hc') e) (fun d hd => by rw [List.mem_singleton.mp hd]; exact hf5) (by show h0.objs.size ≤ _; rw [sz0]; exact Nat.le_refl _) ?_, rfl, ⟨_, _, x, y, rfl, I.hok.fresh (Nat.le_refl _), Nat.succ_ne_self _, hn, rfl, fun xs' ys' a1 a2 => ?_⟩, ?_, fun d hd => ?_⟩
      · exact ⟨(by show 2 ≤ sizeLine; decide), [.int i tk, .ref s.heap.objs.size], .cons ⟨tk, rfl⟩ (.cons rfl .nil), ⟨_, ptT, rfl, _, rfl⟩⟩
      · rw [I.list_inj a1 q1, I.list_inj a2 q2]
        exact ⟨hx, hy⟩
      · obtain ⟨oa, ea, ra⟩ := j1
        obtain ⟨ob, eb, rb⟩ := j2
        obtain ⟨u', v', eo'⟩ := o0
        have kTI := kp0 (n + 2) _ (by simp) st.TI
        refine ⟨⟨_, by simpa using z2⟩, z0.up (up _ · (by omega)), up _ _ (by omega) kTI, ⟨_, _, up _ _ (by omega) eo'⟩, ⟨oa, up _ _ (by omega) ea, ra⟩, ⟨ob, up _ _ (by omega) eb, rb⟩⟩
      · rw [upd_ne (Nat.ne_of_lt (Nat.lt_succ_of_lt (lt d hd))), upd_ne (Nat.ne_of_lt (lt d hd))]
        exact (hf d hd).1
  done := by
    intro X hP hw hK hc i pins s σ H E I hf st hg
    subst hP hw hK
    obtain ⟨xs, ys, q1, q2, hl⟩ := hg
    obtain ⟨its1, rv1, p1, _⟩ := I.list q1
    obtain ⟨u, v, eo⟩ := st.TO
    obtain ⟨old, ee⟩ := st.e
    have na : ∀ d ∈ [n + 5, n + 4, n + 2, n + 3, n, n + 1], a ≠ d := fun d hd => sq_neL I q1 (hf d hd)
    have nb : ∀ d ∈ [n + 5, n + 4, n + 2, n + 3, n, n + 1], b ≠ d := fun d hd => sq_neL I q2 (hf d hd)
    have nh : ∀ d ∈ [n + 5, n + 4, n + 2, n + 3, n, n + 1], d ∉ hAdr X.A.in1.in1 := fun d hd z => I.hna hc (hf d hd).2.2.2.1 (hf d hd).2.2.2.2.2 d (mem_hAdr z) rfl
    have ap : ZApart (n + 4) (n + 2) (n + 3) n (n + 1) (n :: a :: hAdr X.A.in1.in1) ((n + 1) :: b :: hAdr X.A.in1.in1) := by
      have a1 := na (n + 4) (by simp)
      have a2 := na (n + 3) (by simp)
      have a3 := na (n + 1) (by simp)
      have b1 := nb (n + 4) (by simp)
      have b2 := nb (n + 3) (by simp)
      have b3 := nb n (by simp)
      constructor <;> (try simp only [List.mem_cons, not_or]) <;> first | omega | exact ⟨by omega, by omega, nh _ (by simp)⟩
    have hi : its1.toArray.size = i := by rw [List.size_toArray, ← rv1.length]; exact hl
    subst hi
    have ha1 : ∀ d ∈ [n + 5, n + 4, n + 2, n + 3, n, n + 1], ∀ a, X.A.in1.in1.handled = some (.ref a) → a ≠ d := fun d hd => I.hna hc (hf d hd).2.2.2.1 (hf d hd).2.2.2.2.2
    have ty : s.TypeIs (.ref (n + 5)) "enumerate" := ⟨_, ee, rfl⟩
    unfold pyNext
    refine wpAny_bind (wpAny_attempt (wpAny_callSpecial?_slot (name := Str.ofString "__next__") ty F.slot_enumerate_next (wpAny_call_entry F.slot_enumerate_next ty F.entry_enumerate_next ?_ (F.args_enumerate_next_1 _))))
    show wpAny _ _ (field (.ref (n + 5)) 2 >>= _) _ _ _
    refine wpAny_bind (wpAny_field ee rfl (x := .ref (n + 4)) rfl ?_)
    refine wpAny_bind (nx_zip_end (draws_lst n a (na n (by simp)) (ha1 n (by simp)) its1.toArray) ap st.z st.TI eo ⟨st.i1, p1.isList, I.hb hc⟩ fun h1 e kp he => ?_)
    obtain ⟨o, ho, hc'⟩ := he
    refine wpAny_bind (wpAny_isInstance (T := "StopIteration") (b := true) ⟨o, ho, hc'⟩ isSubtype_stop (wpAny_pure ⟨rfl, ?_⟩))
    refine turnedL (t' := s.toks) (ch := [n + 4, n + 3, n, n + 1]) I (fun c o hc' e => ?_) fun d hd => hf d (by simp only [List.mem_cons, List.not_mem_nil, or_false] at hd ⊢; rcases hd with z | z | z | z <;> simp [z])
    simp only [List.mem_cons, List.not_mem_nil, or_false, not_or] at hc'
    exact kp c o hc'.1 hc'.2.1 hc'.2.2.1 hc'.2.2.2 e
  self := fun A i s Q E st h => by
    obtain ⟨old, ee⟩ := st.e
    exact wpAny_pyIter_enum ee h
theorem call_zipS {prog : Program} {w : World} {A : Around} {E : Value → Shared → Prop} {s : Shared} {a b : Addr} {xs ys : Array Value} {Q : Value → Shared → Prop} (k1 : s.heap.IsList a xs) (k2 : s.heap.IsList b ys)
    (h : ∀ h', h'.objs.size = s.heap.objs.size + 5 → IsZip h' (s.heap.objs.size + 4) (s.heap.objs.size + 2) (s.heap.objs.size + 3) .none → IsPair h' (s.heap.objs.size + 2) (.ref s.heap.objs.size) (.ref (s.heap.objs.size + 1)) → IsPair h' (s.heap.objs.size + 3) .none .none →
      h'.IsListIter s.heap.objs.size a 0 → h'.IsListIter (s.heap.objs.size + 1) b 0 → (∀ c o, s.heap.get? c = some o → h'.get? c = some o) → Q (.ref (s.heap.objs.size + 4)) { s with heap := h' }) :
    wpAny (model prog w) A (call (.type "zip") [.ref a, .ref b]) Q E s := by
  refine callType_new F.called_zip (by decide) (F.typeCall_zip_2 _ _) (F.newCall_zip_2 _ _) (fun obj => F.args_object_init_3 obj _ _) F.entry_zip_new (meets_zipL a b xs ys) ⟨k1, k2, ?_⟩
  have e1 : (zl1 s.heap a).objs.size = s.heap.objs.size + 1 := Heap.size_push ..
  have e2 : (zl2 s.heap a b).objs.size = s.heap.objs.size + 2 := by rw [Heap.size_push, e1]
  have e3 : (zl3 s.heap a b).objs.size = s.heap.objs.size + 3 := by rw [Heap.size_push, e2]
  have e4 : (zl4 s.heap a b).objs.size = s.heap.objs.size + 4 := by rw [Heap.size_push, e3]
  have p5 : (zl5 s.heap a b).get? (zl4 s.heap a b).objs.size = some _ := Heap.get?_push_size _ rfl
  have p4 : (zl5 s.heap a b).get? (zl3 s.heap a b).objs.size = some _ := Heap.get?_push_of_some _ (Heap.get?_push_size _ rfl)
  have p3 : (zl5 s.heap a b).get? (zl2 s.heap a b).objs.size = some _ := Heap.get?_push_of_some _ (Heap.get?_push_of_some _ (Heap.get?_push_size _ rfl))
  have p2 : (zl5 s.heap a b).get? (zl1 s.heap a).objs.size = some _ := Heap.get?_push_of_some _ (Heap.get?_push_of_some _ (Heap.get?_push_of_some _ (Heap.get?_push_size _ rfl)))
  have p1 : (zl5 s.heap a b).get? s.heap.objs.size = some _ := Heap.get?_push_of_some _ (Heap.get?_push_of_some _ (Heap.get?_push_of_some _ (Heap.get?_push_of_some _ (Heap.get?_push_size _ rfl))))
  show _ ∧ _
  rw [e2, e3, e4] at p5
  rw [e1, e2] at p3
  rw [e3] at p4
  rw [e1] at p2
  rw [e4]
  refine ⟨⟨_, p5, rfl⟩, h _ (by rw [Heap.size_push, e4]) p5 p3 p4 ⟨_, p1, rfl, rfl⟩ ⟨_, p2, rfl, rfl⟩ fun c o q => ?_⟩
  exact Heap.get?_push_of_some _ (Heap.get?_push_of_some _ (Heap.get?_push_of_some _ (Heap.get?_push_of_some _ (Heap.get?_push_of_some _ q))))
def iEnZ (K : PySem.W.Frag) (ta : TA) : TI := fun σ H R => ta σ H fun vs H1 => ∃ a b xs ys, vs = [.ref a, .ref b] ∧ SqL K H1 a xs ∧ SqL K H1 b ys ∧ R (Itez K a b) H1
theorem pi_enumZ {X : Cx} {es : List Expr} {k : Nat} {tpos : Pos} {a b : Expr} {ta : TA} {p pos p' pos' : Pos} (hg : Gl X "zip") (hm : X.mg "zip" = none) (hg' : Gl X "enumerate") (hm' : X.mg "enumerate" = none) (ha : PA X [a, b] ta) (hs : starEach [a, b] X.env = [(false, eval a X.env), (false, eval b X.env)] := by rfl)
    (hs2 : starEach [b] X.env = [(false, eval b X.env)] := by rfl) (hs3 : starEach [.Call (.Name "zip" p) [a, b] [] pos] X.env = [(false, eval (.Call (.Name "zip" p) [a, b] [] pos) X.env)] := by rfl) :
    PI X (.Tuple es k tpos) (.Call (.Name "enumerate" p') [.Call (.Name "zip" p) [a, b] [] pos] [] pos') (iEnZ X.K ta) := by
  intro pins s σ H R I h
  refine Call_ (ld_blt I hg' hm' boot_enumerate (PyProof.Rows.callWith_type1 ?_ (by rw [hs3]; rfl) (by rfl)))
  rw [hs3]
  refine Calls.spliced_cons (Call_ (ld_blt I hg hm boot_zip (PyProof.Rows.callWith_type1 (thn (ha pos pins s σ H _ I h) fun us s1 ⟨vs, H1, I1, r1, q1⟩ => ?_) (by rw [hs, hs2]) (by rw [hs2]; rfl))))
  obtain ⟨a1, b1, xs, ys, e, k1, k2, q⟩ := q1
  subst e
  obtain ⟨u1, u2, rfl, ru1, ru2⟩ := Vals.two r1
  cases ru1
  cases ru2
  obtain ⟨its1, rv1, p1, _⟩ := I1.list k1
  obtain ⟨its2, rv2, p2, _⟩ := I1.list k2
  refine call_zipS p1.isList p2.isList fun h1 sz z1 t1 o1 s1' s2' kp => Calls.spliced_nil ?_
  refine call_enumZ (s := { s1 with heap := h1 }) z1 fun h2 e2 kp2 => ?_
  have e2 : IsEnum h2 h1.objs.size (s1.heap.objs.size + 4) 0 .none := e2
  rw [sz] at e2
  show wpAny _ _ (pyIter (.ref h1.objs.size)) _ _ _
  rw [sz]
  refine wpAny_pyIter_enum (s := { s1 with heap := h2 }) e2 ?_
  have I2 : Inv X pins σ H1 { s1 with heap := h2 } := I1.kept (t' := s1.toks) fun b o e => kp2 _ _ (kp b o e)
  obtain ⟨oa, ea, ra⟩ := s1'
  obtain ⟨ob, eb, rb⟩ := s2'
  refine ⟨_, _, _, _, H1, rfl, I2, turn_enumZ a1 b1 s1.heap.objs.size, ⟨⟨_, e2⟩, ⟨_, _, kp2 _ _ z1, .inl rfl⟩, kp2 _ _ t1, ⟨_, _, kp2 _ _ o1⟩, ⟨oa, kp2 _ _ ea, ra⟩, ⟨ob, kp2 _ _ eb, rb⟩⟩, fun d hd => ?_, q⟩
  have : s1.heap.objs.size ≤ d := by
    simp only [List.mem_cons, List.not_mem_nil, or_false] at hd
    rcases hd with z | z | z | z | z | z <;> rw [z] <;> first | exact Nat.le_add_right _ _ | exact Nat.le_refl _
  exact I1.fpOk this (I1.hok.fresh this)
end L3
namespace L3
theorem room84 {k : Nat} {A : PySem.Around} (r : L2.Room k A) : A.units + 84 < PySem.cLine := by have := r.un; omega
end L3
end
section
set_option maxHeartbeats 2000000
namespace K30
open PySem L2 L3 KM PyProof.Rows
seal L2.PE L2.PS L2.PSs L2.PT L2.PW L2.PA L2.PG L2.PGs L2.PI L2.PC L2.PO L2.PPs L2.PK L3.PIf
variable {P : Program} {w : World} {K : PySem.W.Frag} {mg : Str → Option Value} {base : Heap} {t : Adr}
def unlB (x : Str) (ps : List D) (y : Str) (qs : List D) : Bool := !decide (x = y) || (leafW x && !eqB (ps = qs))
mutual
def prtD : D → D → Option (List Nat)
  | .tup (.str x :: ps), .tup (.str y :: qs) => if unlB x ps y qs = true then some [] else if leafW x = true then none else prtL 0 ps qs
  | _, _ => none
def prtL : Nat → List D → List D → Option (List Nat)
  | i, p :: ps, q :: qs => match prtD p q with
    | some pl => some (i :: pl)
    | none => prtL (i + 1) ps qs
  | _, _, _ => none
end
theorem prtD_eq (x : Str) (ps : List D) (y : Str) (qs : List D) (h : unlB x ps y qs = false) : prtD (.tup (.str x :: ps)) (.tup (.str y :: qs)) = prtL 0 (kidsD x ps) (kidsD y qs) := by
  have hxy : x = y := by
    unfold unlB at h
    rw [Bool.or_eq_false_iff] at h
    simpa using h.1
  subst hxy
  rw [prtD, h, if_neg (by simp)]
  unfold kidsD
  by_cases hl : leafW x = true
  · rw [if_pos hl, if_pos hl, if_pos hl, prtL]
    intros; simp_all
  · rw [if_neg hl, if_neg hl, if_neg hl]
theorem prtD_un (x : Str) (ps : List D) (y : Str) (qs : List D) (h : unlB x ps y qs = true) : prtD (.tup (.str x :: ps)) (.tup (.str y :: qs)) = some [] := by
  rw [prtD, if_pos h]
theorem unl_sym (x : Str) (ps : List D) (y : Str) (qs : List D) : unlB x ps y qs = unlB y qs x ps := by
  unfold unlB
  by_cases h : x = y
  · subst h
    have : eqB (ps = qs) = eqB (qs = ps) := by
      by_cases z : ps = qs
      · rw [eqB_t z, eqB_t z.symm]
      · rw [eqB_f z, eqB_f (fun y => z y.symm)]
    rw [this]
  · have h' : ¬ y = x := fun z => h z.symm
    simp [h, h']
mutual
theorem prt_sym : ∀ d e : D, prtD d e = prtD e d
  | .tup (.str x :: ps), .tup (.str y :: qs) => by
    by_cases h : unlB x ps y qs = true
    · rw [prtD_un _ _ _ _ h, prtD_un _ _ _ _ (by rw [← unl_sym]; exact h)]
    · have h : unlB x ps y qs = false := Bool.eq_false_iff.mpr h
      have h' : unlB y qs x ps = false := by rw [← unl_sym]; exact h
      have hxy : x = y := by
        unfold unlB at h
        rw [Bool.or_eq_false_iff] at h
        simpa using h.1
      subst hxy
      rw [prtD, prtD, if_neg (show ¬ unlB x ps x qs = true by simp [h]), if_neg (show ¬ unlB x qs x ps = true by simp [h'])]
      by_cases hl : leafW x = true
      · rw [if_pos hl, if_pos hl]
      · rw [if_neg hl, if_neg hl]
        exact prtL_sym 0 ps qs
  | .tup (.str x :: ps), .tup [] => by simp [prtD]
  | .tup (.str x :: ps), .tup (.non :: _) => by simp [prtD]
  | .tup (.str x :: ps), .tup (.bl _ :: _) => by simp [prtD]
  | .tup (.str x :: ps), .tup (.int _ :: _) => by simp [prtD]
  | .tup (.str x :: ps), .tup (.tup _ :: _) => by simp [prtD]
  | .tup (.str x :: ps), .non => by simp [prtD]
  | .tup (.str x :: ps), .bl _ => by simp [prtD]
  | .tup (.str x :: ps), .int _ => by simp [prtD]
  | .tup (.str x :: ps), .str _ => by simp [prtD]
  | .tup [], e => by cases e with | tup es => (cases es with | nil => rfl | cons a es => cases a <;> simp [prtD]) | _ => simp [prtD]
  | .tup (.non :: _), e => by cases e with | tup es => (cases es with | nil => simp [prtD] | cons a es => cases a <;> simp [prtD]) | _ => simp [prtD]
  | .tup (.bl _ :: _), e => by cases e with | tup es => (cases es with | nil => simp [prtD] | cons a es => cases a <;> simp [prtD]) | _ => simp [prtD]
  | .tup (.int _ :: _), e => by cases e with | tup es => (cases es with | nil => simp [prtD] | cons a es => cases a <;> simp [prtD]) | _ => simp [prtD]
  | .tup (.tup _ :: _), e => by cases e with | tup es => (cases es with | nil => simp [prtD] | cons a es => cases a <;> simp [prtD]) | _ => simp [prtD]
  | .non, e => by cases e with | tup es => (cases es with | nil => simp [prtD] | cons a es => cases a <;> simp [prtD]) | _ => simp [prtD]
  | .bl _, e => by cases e with | tup es => (cases es with | nil => simp [prtD] | cons a es => cases a <;> simp [prtD]) | _ => simp [prtD]
  | .int _, e => by cases e with | tup es => (cases es with | nil => simp [prtD] | cons a es => cases a <;> simp [prtD]) | _ => simp [prtD]
  | .str _, e => by cases e with | tup es => (cases es with | nil => simp [prtD] | cons a es => cases a <;> simp [prtD]) | _ => simp [prtD]
theorem prtL_sym : ∀ (i : Nat) (ps qs : List D), prtL i ps qs = prtL i qs ps
  | i, [], [] => rfl
  | i, [], q :: qs => by simp [prtL]
  | i, p :: ps, [] => by simp [prtL]
  | i, p :: ps, q :: qs => by
    rw [prtL, prtL, prt_sym p q, prtL_sym (i + 1) ps qs]
end
mutual
theorem wf_nb : ∀ {k : Bool} {d : D}, wfG isStrD k d = true → nbD d = true
  | k, .tup (.str x :: ps), h => by
    obtain ⟨s, e1, e2, e3, e4, e5, _⟩ := wf_shape h
    show (true && nbL ps) = true
    rw [wf_nbL e3]
    rfl
  | k, .tup [], h => by simp [wfG] at h
  | k, .tup (.non :: _), h => by simp [wfG] at h
  | k, .tup (.bl _ :: _), h => by simp [wfG] at h
  | k, .tup (.int _ :: _), h => by simp [wfG] at h
  | k, .tup (.tup _ :: _), h => by simp [wfG] at h
  | k, .non, h => by simp [wfG] at h
  | k, .bl _, h => by simp [wfG] at h
  | k, .int _, h => by simp [wfG] at h
  | k, .str _, h => by simp [wfG] at h
theorem wf_nbL : ∀ {cs : List Nat} {ps : List D}, wfL isStrD cs ps = true → nbL ps = true
  | [], [], _ => rfl
  | [], _ :: _, h => by simp [wfL] at h
  | _ :: _, [], h => by simp [wfL] at h
  | c :: cs, p :: ps, h => by
    rw [wfL_cons, Bool.and_eq_true] at h
    show (nbD p && nbL ps) = true
    rw [wf_nbL h.2, Bool.and_true]
    have h := h.1
    unfold dueB at h
    by_cases c1 : c = 107
    · rw [if_pos c1] at h; exact wf_nb h
    · rw [if_neg c1] at h
      by_cases c2 : c = 116
      · rw [if_pos c2] at h; exact wf_nb h
      · rw [if_neg c2] at h
        cases p <;> first | rfl | (simp [numD, isStrD] at h; done)
end
theorem wfL_one {nm : D → Bool} {c : Nat} {ps : List D} (h : wfL nm [c] ps = true) : ∃ p, ps = [p] ∧ dueB nm c p = true := by
  cases ps with
  | nil => simp [wfL] at h
  | cons p ps =>
    cases ps with
    | nil => rw [wfL_cons, Bool.and_eq_true] at h; exact ⟨p, rfl, h.1⟩
    | cons q ps => rw [wfL_cons, Bool.and_eq_true] at h; have := h.2; simp [wfL] at this
theorem leaf_cases {x : Str} (h : leafW x = true) : x = "var" ∨ x = "name" := by
  unfold leafW at h
  rw [Bool.or_eq_true] at h
  exact h.imp of_decide_eq_true of_decide_eq_true
theorem leaf_one {k : Bool} {x : Str} {ps : List D} (h : wfG isStrD k (.tup (.str x :: ps)) = true) (hl : leafW x = true) : ∃ p, ps = [p] ∧ ((x = "var" ∧ ∃ i, p = .int i ∧ 0 ≤ i ∧ i ≤ 99) ∨ (x = "name" ∧ ∃ y, p = .str y)) := by
  rcases leaf_cases hl with rfl | rfl
  · rw [wfG, shape_var, Bool.and_eq_true] at h
    have h2 := h.2
    rw [show (Str.cps "n").toList = [110] from len_n] at h2
    obtain ⟨p, rfl, hp⟩ := wfL_one h2
    refine ⟨p, rfl, .inl ⟨rfl, ?_⟩⟩
    unfold dueB at hp
    rw [if_neg (by decide), if_neg (by decide), if_pos rfl] at hp
    cases p <;> simp [numD] at hp
    exact ⟨_, rfl, hp.1, hp.2⟩
  · rw [wfG, shape_name, Bool.and_eq_true] at h
    have h2 := h.2
    rw [show (Str.cps "w").toList = [119] from len_w] at h2
    obtain ⟨p, rfl, hp⟩ := wfL_one h2
    refine ⟨p, rfl, .inr ⟨rfl, ?_⟩⟩
    unfold dueB at hp
    rw [if_neg (by decide), if_neg (by decide), if_neg (by decide)] at hp
    cases p <;> simp [isStrD] at hp
    exact ⟨_, rfl⟩
theorem kids_len {k k' : Bool} {x : Str} {ps qs : List D} (h : wfG isStrD k (.tup (.str x :: ps)) = true) (h' : wfG isStrD k' (.tup (.str x :: qs)) = true) : (kidsD x ps).length = (kidsD x qs).length := by
  obtain ⟨_, _, _, _, _, _, _, _, r, h1, h2⟩ := wf_shape h
  obtain ⟨_, _, _, _, _, _, _, _, r', h1', h2'⟩ := wf_shape h'
  rw [h1] at h1'
  cases h1'
  rw [← h2, h2']
theorem prt_same : ∀ (n : Nat) (d : D) (k : Bool), depth d < n → wfG isStrD k d = true → prtD d d = none
  | 0, d, k, h, _ => absurd h (Nat.not_lt_zero _)
  | n + 1, d, k, h, wf => by
    obtain ⟨x, ps, rfl⟩ := wf_form wf
    have hu : unlB x ps x ps = false := by unfold unlB; rw [eqB_t rfl]; simp
    rw [prtD_eq _ _ _ _ hu]
    have kid : ∀ (as : List D) (i : Nat), (∀ a ∈ as, a ∈ kidsD x ps) → prtL i as as = none := fun as => by
      induction as with
      | nil => intro i _; rw [prtL]; intros; simp_all
      | cons a as ih =>
        intro i h2
        obtain ⟨j, hj⟩ := List.getElem?_of_mem (h2 a List.mem_cons_self)
        obtain ⟨⟨ka, wa⟩, da⟩ := wf_kid wf hj
        rw [prtL, prt_same n a ka (by omega) wa]
        exact ih (i + 1) fun z hz => h2 z (List.mem_cons_of_mem _ hz)
    exact kid _ 0 fun _ h => h
def unD (d e : D) : Bool := match d, e with
  | .tup (.str x :: ps), .tup (.str y :: qs) => unlB x ps y qs
  | _, _ => false
def fuR : List Rp → List Rp → Option (List Nat)
  | r :: rs, s :: ss => if unD r.2 s.2 = true then some r.1 else fuR rs ss
  | _, _ => none
theorem fu_rows : ∀ (n : Nat) (d e : D) (k k' : Bool) (pl : List Nat) (R S : List Rp), depth d < n → wfG isStrD k d = true → wfG isStrD k' e = true → fuR (rowsD pl d ++ R) (rowsD pl e ++ S) = match prtD d e with
    | some p => some (pl ++ p)
    | none => fuR R S
  | 0, d, e, k, k', pl, R, S, h, _, _ => absurd h (Nat.not_lt_zero _)
  | n + 1, d, e, k, k', pl, R, S, h, wf, wf' => by
    obtain ⟨x, ps, rfl⟩ := wf_form wf
    obtain ⟨y, qs, rfl⟩ := wf_form wf'
    rw [rowsD_eq, rowsD_eq, List.cons_append, List.cons_append, fuR]
    show (if unlB x ps y qs = true then some pl else _) = _
    by_cases hu : unlB x ps y qs = true
    · rw [if_pos hu, prtD_un _ _ _ _ hu]
      show some pl = some (pl ++ [])
      rw [List.append_nil]
    rw [if_neg hu]
    have hu : unlB x ps y qs = false := Bool.eq_false_iff.mpr hu
    rw [prtD_eq _ _ _ _ hu]
    unfold unlB at hu
    rw [Bool.or_eq_false_iff] at hu
    have hxy : x = y := by simpa using hu.1
    subst hxy
    have kl := kids_len wf wf'
    have kid : ∀ (as bs : List D) (i : Nat), as.length = bs.length → (∀ a ∈ as, a ∈ kidsD x ps) → (∀ b ∈ bs, b ∈ kidsD x qs) → fuR (rowsL pl i as ++ R) (rowsL pl i bs ++ S) = match prtL i as bs with
        | some p => some (pl ++ p)
        | none => fuR R S := fun as => by
      induction as with
      | nil =>
        intro bs i h1 _ _
        cases List.length_eq_zero_iff.mp h1.symm
        rw [rowsL, prtL]
        · rfl
        · intros; simp_all
      | cons a as ih =>
        intro bs i h1 h2 h3
        cases bs with
        | nil => simp at h1
        | cons b bs =>
          obtain ⟨j, hj⟩ := List.getElem?_of_mem (h2 a List.mem_cons_self)
          obtain ⟨j', hj'⟩ := List.getElem?_of_mem (h3 b List.mem_cons_self)
          obtain ⟨⟨ka, wa⟩, da⟩ := wf_kid wf hj
          obtain ⟨⟨kb, wb⟩, _⟩ := wf_kid wf' hj'
          rw [rowsL, rowsL, List.append_assoc, List.append_assoc, fu_rows n a b ka kb (pl ++ [i]) _ _ (by omega) wa wb, prtL]
          cases e : prtD a b with
          | some p => show some (pl ++ [i] ++ p) = some (pl ++ i :: p); rw [List.append_assoc]; rfl
          | none => exact ih bs (i + 1) (by simpa using h1) (fun z hz => h2 z (List.mem_cons_of_mem _ hz)) (fun z hz => h3 z (List.mem_cons_of_mem _ hz))
    exact kid _ _ 0 kl (fun _ h => h) (fun _ h => h)
theorem fu_due {n : Nat} {d e : D} {k k' : Bool} (h : depth d < n) (wf : wfG isStrD k d = true) (wf' : wfG isStrD k' e = true) : fuR (rowsD [] d) (rowsD [] e) = prtD d e := by
  have := fu_rows n d e k k' [] [] [] h wf wf'
  rw [List.append_nil, List.append_nil] at this
  rw [this]
  cases prtD d e with
  | some p => rfl
  | none => rw [fuR]; intros; simp_all
theorem prt_len : ∀ (n : Nat) (d e : D) (k : Bool), depth d < n → wfG isStrD k d = true → ∀ p, prtD d e = some p → p.length < n
  | 0, d, e, k, h, _, _, _ => absurd h (Nat.not_lt_zero _)
  | n + 1, d, e, k, h, wf, p, hp => by
    obtain ⟨x, ps, rfl⟩ := wf_form wf
    have kid : ∀ (as bs : List D) (i : Nat) (p : List Nat), (∀ a ∈ as, a ∈ kidsD x ps) → prtL i as bs = some p → p.length < n + 1 := fun as => by
      induction as with
      | nil => intro bs i p _ e; rw [prtL] at e; cases e; intros; simp_all
      | cons a as ih =>
        intro bs i p h2 e
        cases bs with
        | nil => simp [prtL] at e
        | cons b bs =>
          obtain ⟨j, hj⟩ := List.getElem?_of_mem (h2 a List.mem_cons_self)
          obtain ⟨⟨ka, wa⟩, da⟩ := wf_kid wf hj
          rw [prtL] at e
          cases ea : prtD a b with
          | some q =>
            rw [ea] at e
            have e : some (i :: q) = some p := e
            cases e
            have := prt_len n a b ka (by omega) wa q ea
            show q.length + 1 < n + 1
            omega
          | none => rw [ea] at e; exact ih bs (i + 1) p (fun z hz => h2 z (List.mem_cons_of_mem _ hz)) e
    match e with
    | .tup (.str y :: qs) =>
      by_cases hu : unlB x ps y qs = true
      · rw [prtD_un _ _ _ _ hu] at hp; cases hp; exact Nat.succ_pos _
      rw [prtD_eq _ _ _ _ (Bool.eq_false_iff.mpr hu)] at hp
      exact kid _ _ 0 p (fun _ h => h) hp
    | .tup [] => simp [prtD] at hp
    | .tup (.non :: _) => simp [prtD] at hp
    | .tup (.bl _ :: _) => simp [prtD] at hp
    | .tup (.int _ :: _) => simp [prtD] at hp
    | .tup (.tup _ :: _) => simp [prtD] at hp
    | .non => simp [prtD] at hp
    | .bl _ => simp [prtD] at hp
    | .int _ => simp [prtD] at hp
    | .str _ => simp [prtD] at hp
end K30
end
section
set_option maxHeartbeats 2000000
namespace K30
open PySem L2 L3 KM PyProof.Rows
seal L2.PE L2.PS L2.PSs L2.PT L2.PW L2.PA L2.PG L2.PGs L2.PI L2.PC L2.PO L2.PPs L2.PK L3.PIf
variable {P : Program} {w : World} {K : PySem.W.Frag} {mg : Str → Option Value} {base : Heap} {t : Adr}
def spUnl : Sp := fun vs H Q _ => ∃ (x : Str) (ps : List D) (y : Str) (qs : List D) (v u : V) (k k' : Bool), vs = [v, u] ∧ Rep H (.tup (.str x :: ps)) v ∧ Rep H (.tup (.str y :: qs)) u ∧ wfG isStrD k (.tup (.str x :: ps)) = true ∧ wfG isStrD k' (.tup (.str y :: qs)) = true ∧ ∀ H', Same H H' → Q (.bl (unlB x ps y qs)) H'
theorem rep_ne {H : Hp} {p q : D} {v u : V} (h : (∃ i j, p = .int i ∧ q = .int j) ∨ ∃ a b, p = .str a ∧ q = .str b) (r : Rep H p v) (r' : Rep H q u) : (!decide (v = u)) = !eqB ([p] = [q]) ∧ scal v u = true := by
  have key : (v = u ↔ p = q) ∧ scal v u = true := by
    rcases h with ⟨i, j, rfl, rfl⟩ | ⟨a, b, rfl, rfl⟩
    · cases (show v = V.int i from r); cases (show u = V.int j from r')
      refine ⟨⟨?_, ?_⟩, rfl⟩
      · intro z; injection z with z; rw [z]
      · intro z; injection z with z; rw [z]
    · cases (show v = V.str a from r.1); cases (show u = V.str b from r'.1)
      refine ⟨⟨?_, ?_⟩, rfl⟩
      · intro z; injection z with z; rw [z]
      · intro z; injection z with z; rw [z]
  refine ⟨?_, key.2⟩
  by_cases z : p = q
  · rw [eqB_t (by rw [z])]
    simp [key.1.mpr z]
  · rw [eqB_f (fun y => z (by simpa using y))]
    simpa using fun y => z (key.1.mp y)
theorem sc_is_unlike : FnScope ["one", "other"] ["one", "other"] (defScope s_is_unlike) := ⟨rfl, rfl, rfl, by decide +kernel, rfl, by decide +kernel, by decide +kernel⟩
theorem c_is_unlike (D : Df K mg "is_unlike" s_is_unlike ["one", "other"]) (M : Mg mg t) : Cal P w K mg CX0 "is_unlike" (1) ["one", "other"] spUnl := by
  refine D.ok sc_is_unlike (fun vs H Q E h => ?_) (fun base f cdv A outer s H vs Q E hr h => ?_)
  · obtain ⟨x, ps, y, qs, v, u, k, k', rfl, _⟩ := h
    rfl
  obtain ⟨x, ps, y, qs, v, u, k, k', rfl, r1, r2, wf1, wf2, q⟩ := h
  obtain ⟨a, us0, rfl, ha, v0, us, rfl, ⟨rfl, hx⟩, rp⟩ := id r1
  obtain ⟨b, ws0, rfl, hb, w0, ws, rfl, ⟨rfl, hy⟩, rq⟩ := id r2
  have ea : atI (V.str x :: us) 0 = some (.str x) := atI_nat (j := 0) rfl
  have eb : atI (V.str y :: ws) 0 = some (.str y) := atI_nat (j := 0) rfl
  refine ⟨_, (pss_cons (ps_if (pt_cmpR op_ne (pe_ix ix_tup (pv 0) pe_int (fun _ _ => rfl)) (pe_ix ix_tup (pv 1) pe_int (fun _ _ => rfl)) (nomark _)) (pss_one (ps_ret pe_bl)) pss_nil)
      (pss_one (ps_ret (pe_and (pe_cmpR op_in_seq (pe_ix ix_tup (pv 0) pe_int (fun _ _ => rfl)) (pe_tup (pa_cons pe_str (pa_cons pe_str pa_nil))) rfl) (pe_one (pe_cmpR op_ne (pe_ix ix_tup (pv 0) pe_int (fun _ _ => rfl)) (pe_ix ix_tup (pv 1) pe_int (fun _ _ => rfl)) (nomark _))))))), ?_⟩
  try dsimp only [cxK, cxK2]
  refine let2 ?_
  intro _ _
  refine ⟨_, rfl, a, _, _, _, rfl, rfl, SqT.of ha, ea, _, rfl, b, _, _, _, rfl, rfl, SqT.of hb, eb, rfl, _, rfl, ?_⟩
  by_cases c : x = y
  · subst c
    refine ite2 (fun c => absurd c (by simp)) (fun _ => ?_)
    have e : unlB x ps x qs = (leafW x && !eqB (ps = qs)) := by unfold unlB; simp
    rw [e] at q
    refine ⟨_, rfl, a, _, _, _, rfl, rfl, SqT.of ha, ea, (by show 2 ≤ sizeLine; decide), fun p1 hp1 => ⟨p1, (["var", "name"] : List Str).map V.str, rfl, .inr (SqT.of upd_same), rfl, rfl, _, rfl, ?_⟩⟩
    have s1 := same_new hp1 (.tup [V.str "var", .str "name"])
    show if (inV (.str x) ((["var", "name"] : List Str).map V.str)) = true then _ else _
    rw [leaf_in]
    generalize upd H p1 (.tup [V.str "var", .str "name"]) = H1 at s1 ⊢
    refine ite2 (fun c => ?_) (fun c => ?_)
    · rw [c, Bool.true_and] at q
      obtain ⟨p, rfl, hp⟩ := leaf_one wf1 c
      obtain ⟨p', rfl, hp'⟩ := leaf_one wf2 c
      obtain ⟨v1, _, rfl, rv1, rn⟩ := rp
      cases (show _ = [] from rn)
      obtain ⟨v2, _, rfl, rv2, rn⟩ := rq
      cases (show _ = [] from rn)
      have hh : (∃ i j, p = .int i ∧ p' = .int j) ∨ ∃ a b, p = .str a ∧ p' = .str b := by
        rcases hp with ⟨z, i, rfl, _⟩ | ⟨z, i, rfl⟩ <;> rcases hp' with ⟨z', j, rfl, _⟩ | ⟨z', j, rfl⟩
        · exact .inl ⟨i, j, rfl, rfl⟩
        · rw [z] at z'; exact absurd z' (by decide +kernel)
        · rw [z] at z'; exact absurd z' (by decide +kernel)
        · exact .inr ⟨i, j, rfl, rfl⟩
      obtain ⟨e1, e2⟩ := rep_ne hh rv1 rv2
      refine ⟨_, rfl, a, _, _, _, rfl, rfl, SqT.of (s1 _ _ ha), atI_nat (j := 1) rfl, _, rfl, b, _, _, _, rfl, rfl, SqT.of (s1 _ _ hb), atI_nat (j := 1) rfl, e2, ?_⟩
      show Q (V.bl (!decide (v1 = v2))) H1
      rw [e1]
      exact q _ s1
    · rw [Bool.eq_false_iff.mpr c, Bool.false_and] at q
      exact q _ s1
  · refine ite2 (fun _ => ?_) (fun c2 => absurd (by simp [c]) c2)
    have e : unlB x ps y qs = true := by unfold unlB; simp [c]
    rw [e] at q
    exact q H (Same.refl _)
theorem sc_law_unlike : FnScope ["_law_here", "_law_there"] ["_law_here", "_law_there"] (defScope s_law_unlike) := ⟨rfl, rfl, rfl, by decide +kernel, rfl, by decide +kernel, by decide +kernel⟩
theorem c_law_unlike (D : Df K mg "_law_unlike" s_law_unlike ["_law_here", "_law_there"]) (M : Mg mg t) : Cal P w K mg CX0 "_law_unlike" (1) ["_law_here", "_law_there"] spUnl := by
  refine D.ok sc_law_unlike (fun vs H Q E h => ?_) (fun base f cdv A outer s H vs Q E hr h => ?_)
  · obtain ⟨x, ps, y, qs, v, u, k, k', rfl, _⟩ := h
    rfl
  obtain ⟨x, ps, y, qs, v, u, k, k', rfl, r1, r2, wf1, wf2, q⟩ := h
  obtain ⟨a, us0, rfl, ha, v0, us, rfl, ⟨rfl, hx⟩, rp⟩ := id r1
  obtain ⟨b, ws0, rfl, hb, w0, ws, rfl, ⟨rfl, hy⟩, rq⟩ := id r2
  have ea : atI (V.str x :: us) 0 = some (.str x) := atI_nat (j := 0) rfl
  have eb : atI (V.str y :: ws) 0 = some (.str y) := atI_nat (j := 0) rfl
  refine ⟨_, (pss_cons (ps_if (pt_cmpR op_ne (pe_ix ix_tup (pv 0) pe_int (fun _ _ => rfl)) (pe_ix ix_tup (pv 1) pe_int (fun _ _ => rfl)) (nomark _)) (pss_one (ps_ret pe_bl)) pss_nil)
      (pss_one (ps_ret (pe_and (pe_cmpR op_in_seq (pe_ix ix_tup (pv 0) pe_int (fun _ _ => rfl)) (pe_tup (pa_cons pe_str (pa_cons pe_str pa_nil))) rfl) (pe_one (pe_cmpR op_ne (pe_ix ix_tup (pv 0) pe_int (fun _ _ => rfl)) (pe_ix ix_tup (pv 1) pe_int (fun _ _ => rfl)) (nomark _))))))), ?_⟩
  try dsimp only [cxK, cxK2]
  refine let2 ?_
  intro _ _
  refine ⟨_, rfl, a, _, _, _, rfl, rfl, SqT.of ha, ea, _, rfl, b, _, _, _, rfl, rfl, SqT.of hb, eb, rfl, _, rfl, ?_⟩
  by_cases c : x = y
  · subst c
    refine ite2 (fun c => absurd c (by simp)) (fun _ => ?_)
    have e : unlB x ps x qs = (leafW x && !eqB (ps = qs)) := by unfold unlB; simp
    rw [e] at q
    refine ⟨_, rfl, a, _, _, _, rfl, rfl, SqT.of ha, ea, (by show 2 ≤ sizeLine; decide), fun p1 hp1 => ⟨p1, (["var", "name"] : List Str).map V.str, rfl, .inr (SqT.of upd_same), rfl, rfl, _, rfl, ?_⟩⟩
    have s1 := same_new hp1 (.tup [V.str "var", .str "name"])
    show if (inV (.str x) ((["var", "name"] : List Str).map V.str)) = true then _ else _
    rw [leaf_in]
    generalize upd H p1 (.tup [V.str "var", .str "name"]) = H1 at s1 ⊢
    refine ite2 (fun c => ?_) (fun c => ?_)
    · rw [c, Bool.true_and] at q
      obtain ⟨p, rfl, hp⟩ := leaf_one wf1 c
      obtain ⟨p', rfl, hp'⟩ := leaf_one wf2 c
      obtain ⟨v1, _, rfl, rv1, rn⟩ := rp
      cases (show _ = [] from rn)
      obtain ⟨v2, _, rfl, rv2, rn⟩ := rq
      cases (show _ = [] from rn)
      have hh : (∃ i j, p = .int i ∧ p' = .int j) ∨ ∃ a b, p = .str a ∧ p' = .str b := by
        rcases hp with ⟨z, i, rfl, _⟩ | ⟨z, i, rfl⟩ <;> rcases hp' with ⟨z', j, rfl, _⟩ | ⟨z', j, rfl⟩
        · exact .inl ⟨i, j, rfl, rfl⟩
        · rw [z] at z'; exact absurd z' (by decide +kernel)
        · rw [z] at z'; exact absurd z' (by decide +kernel)
        · exact .inr ⟨i, j, rfl, rfl⟩
      obtain ⟨e1, e2⟩ := rep_ne hh rv1 rv2
      refine ⟨_, rfl, a, _, _, _, rfl, rfl, SqT.of (s1 _ _ ha), atI_nat (j := 1) rfl, _, rfl, b, _, _, _, rfl, rfl, SqT.of (s1 _ _ hb), atI_nat (j := 1) rfl, e2, ?_⟩
      show Q (V.bl (!decide (v1 = v2))) H1
      rw [e1]
      exact q _ s1
    · rw [Bool.eq_false_iff.mpr c, Bool.false_and] at q
      exact q _ s1
  · refine ite2 (fun _ => ?_) (fun c2 => absurd (by simp [c]) c2)
    have e : unlB x ps y qs = true := by unfold unlB; simp [c]
    rw [e] at q
    exact q H (Same.refl _)
end K30
end
section
set_option maxHeartbeats 2000000
namespace K30
open PySem L2 L3 KM PyProof.Rows
seal L2.PE L2.PS L2.PSs L2.PT L2.PW L2.PA L2.PG L2.PGs L2.PI L2.PC L2.PO L2.PPs L2.PK L3.PIf
variable {P : Program} {w : World} {K : PySem.W.Frag} {mg : Str → Option Value} {base : Heap} {t : Adr}
def PtV (H : Hp) : Option (List Nat) → V → Prop
  | none, u => u = .non
  | some pl, u => Rep H (plD pl) u
theorem PtV.mono {H H' : Hp} {o : Option (List Nat)} {u : V} (h : PtV H o u) (s : Same H H') : PtV H' o u := by
  cases o with
  | none => exact h
  | some pl => exact (show Rep H (plD pl) u from h).mono s
def GoD (g : D) : Prop := ∃ p q : D, g = .tup [p, q] ∧ prtD p q = none ∧ nbD p = true ∧ nbD q = true ∧ depth p < 75 ∧ depth q < 75
theorem go_nb : ∀ {gds : List D}, (∀ g ∈ gds, GoD g) → nbL gds = true ∧ depthL gds ≤ 80
  | [], _ => ⟨rfl, by simp [depthL]⟩
  | g :: gds, h => by
    obtain ⟨p, q, rfl, _, n1, n2, d1, d2⟩ := h g List.mem_cons_self
    obtain ⟨h1, h2⟩ := go_nb fun z hz => h z (List.mem_cons_of_mem _ hz)
    refine ⟨?_, ?_⟩
    · show ((nbD p && (nbD q && true)) && nbL gds) = true
      rw [n1, n2, h1]
      rfl
    · simp only [depthL, depth]
      omega
theorem drop_cons {l : List D} {i : Nat} {d : D} (h : l[i]? = some d) : l.drop i = d :: l.drop (i + 1) := by
  obtain ⟨hl, e⟩ := List.getElem?_eq_some_iff.mp h
  rw [List.drop_eq_getElem_cons hl, e]
theorem rep_pcons {H : Hp} {i : Nat} {pl : List Nat} {a : Addr} {vs : List V} (h : H a = some (.tup (V.int i :: vs))) (r : Reps H (pl.map fun i => D.int (i : Nat)) vs) : Rep H (plD (i :: pl)) (.ref a) := ⟨a, _, rfl, h, _, _, rfl, rfl, r⟩
def spPart (n : Nat) : Sp := fun vs H Q _ => ∃ (d e : D) (v u : V), vs = [v, u] ∧ Rep H d v ∧ Rep H e u ∧ Wf d ∧ Wf e ∧ depth d < n ∧ depth e < n ∧ n ≤ 75 ∧ ∀ (r : V) (H' : Hp), Same H H' → PtV H' (prtD d e) r → Q r H'
theorem sc_parting : FnScope ["one", "other", "gone", "number", "pair", "place"] ["one", "other"] (defScope s_parting) := ⟨rfl, rfl, rfl, by decide +kernel, rfl, by decide +kernel, by decide +kernel⟩
theorem st_parting {n : Nat} (D : Df K mg "parting" s_parting ["one", "other"]) (M : Mg mg t) (F_is_unlike : Cal P w K mg CX0 "is_unlike" (1) ["one", "other"] spUnl) (F_kids_of : Cal P w K mg CX0 "kids_of" (1) ["thing"] spKids) (F_parting : Cal P w K mg CX0 "parting" (n + 3) ["one", "other"] (spPart n)) : Cal P w K mg CX0 "parting" (n + 4) ["one", "other"] (spPart (n + 1)) := by
  refine D.ok sc_parting (fun vs H Q E h => ?_) (fun base f cdv A outer s H vs Q E hr h => ?_)
  · obtain ⟨d, e, v, u, rfl, _⟩ := h
    rfl
  obtain ⟨d, e, v, u, rfl, r, r', wfd, wfe, hd, he, hn, q⟩ := h
  obtain ⟨x, ps, k, rfl, wf, hps⟩ := wf_ps wfd
  obtain ⟨y, qs, k', rfl, wf', hqs⟩ := wf_ps wfe
  refine ⟨_, (pss_cons (ps_if (pt_val (pe_fn F_is_unlike (hr.mono (by omega)) rfl pass0 (pa_cons (pv 0) (pa_cons (pv 1) pa_nil)))) (pss_one (ps_ret (pe_tup pa_nil))) pss_nil)
      (pss_cons (ps_set (i := 2) sc_parting.nd rfl (by first | exact Or.inl rfl | exact Or.inr rfl) (pe_lst pa_nil))
      (pss_cons (ps_for PassesOwn.never rfl (pi_enumZ rfl M.n_zip rfl M.n_enumerate (pa_cons (pe_fn F_kids_of (hr.mono (by omega)) rfl pass0 (pa_cons (pv 0) pa_nil)) (pa_cons (pe_fn F_kids_of (hr.mono (by omega)) rfl pass0 (pa_cons (pv 1) pa_nil)) pa_nil))) (pg_tup (n := 2) rfl (pgs_cons (pg_name (i := 3) sc_parting.nd rfl (by first | exact Or.inl rfl | exact Or.inr rfl)) (pgs_cons (pg_name (i := 4) sc_parting.nd rfl (by first | exact Or.inl rfl | exact Or.inr rfl)) pgs_nil))) (pss_cons (ps_if (pt_cmpR (op_inD (room84 hr)) (pv 4) (pv 2) rfl) (pss_one ps_continue) pss_nil)
      (pss_cons (ps_set (i := 5) sc_parting.nd rfl (by first | exact Or.inl rfl | exact Or.inr rfl) (pe_fn F_parting (hr.mono (by omega)) rfl pass0 (pa_cons (pe_ix ix_tup (pv 4) pe_int (fun _ _ => rfl)) (pa_cons (pe_ix ix_tup (pv 4) pe_int (fun _ _ => rfl)) pa_nil))))
      (pss_cons (ps_if (pt_cmpR op_notN (pv 5) pe_non (nomark _)) (pss_one (ps_ret (pe_op op_catU (pe_tup (pa_cons (pv 3) pa_nil)) (pv 5)))) pss_nil)
      (pss_one (ps_expr (pe_bm PySem.F.plainAttrs_list PySem.F.slot_list_append PySem.F.type_list_append mt_append (pv 2) (pa_cons (pv 4) pa_nil))))))))
      (pss_one (ps_ret pe_non))))), ?_⟩
  try dsimp only [cxK, cxK2]
  refine let4 ?_
  intro _ _ _ _
  refine ⟨_, rfl, _, rfl, x, ps, y, qs, v, u, k, k', rfl, r, r', wf, wf', fun H1 s1 => ⟨_, rfl, ?_⟩⟩
  refine ite2 (fun c => ?_) (fun c => ?_)
  · rw [prtD_un _ _ _ _ c] at q
    exact ⟨(by show 0 ≤ sizeLine; decide), fun p hp => q _ _ (s1.trans (same_new hp _)) ⟨p, [], rfl, upd_same, rfl⟩⟩
  have c : unlB x ps y qs = false := Bool.eq_false_iff.mpr c
  have hxy : x = y := by
    unfold unlB at c
    rw [Bool.or_eq_false_iff] at c
    simpa using c.1
  subst hxy
  rw [prtD_eq _ _ _ _ c] at q
  have kl := kids_len wf wf'
  have k4 := kids4 wf
  refine ⟨(by show 0 ≤ sizeLine; decide), fun pg hpg => ?_⟩
  have tg := same_new hpg (.lst [])
  refine ⟨_, rfl, x, ps, v, rfl, (r.mono s1).mono tg, hps, fun p2 us H2 hp2 s2 h2 r2 => ?_⟩
  refine ⟨_, rfl, x, qs, u, rfl, ((r'.mono s1).mono tg).mono s2, hqs, fun p3 ws H3 hp3 s3 h3 r3 => ?_⟩
  have hg3 : H3 pg = some (.lst []) := s3 _ _ (s2 _ _ upd_same)
  have h2 := s3 _ _ h2
  have r2 := r2.mono s3
  have l2 := r2.length
  have l3 := r3.length
  have s13 : Same H H3 := s1.trans (tg.trans (s2.trans s3))
  have hpg0 : H pg = none := s1.free hpg
  refine ⟨p2, p3, us, ws, rfl, SqL.of h2, SqL.of h3, ?_⟩
  let Ifr : Nat → L2.St → Hp → Prop := (fun i σ' H' => ∃ (nv kv sv : Option V) (gs : List V) (gds : List KM.D), σ' = [some v, some u, some (.ref pg), nv, kv, sv] ∧ SameX pg H3 H' ∧ H' pg = some (.lst gs) ∧ Reps H' gds gs ∧ gs.length ≤ i ∧ (∀ g ∈ gds, GoD g) ∧ prtL 0 (kidsD x ps) (kidsD x qs) = prtL i ((kidsD x ps).drop i) ((kidsD x qs).drop i))
  refine for_by us.length Ifr ?_ ?_ ?_
  · exact ⟨none, none, none, [], [], rfl, fun _ _ _ h => h, hg3, rfl, Nat.le_refl _, (fun g hg => absurd hg (List.not_mem_nil)), rfl⟩
  · rintro i σ' H4 hi ⟨nv, kv, sv, gs, gds, rfl, s4, hg, rg, lg, okg, hf⟩
    have ng2 : p2 ≠ pg := fun z => by rw [z] at hp2; exact absurd (hp2.symm.trans upd_same) (by simp)
    have ng3 : p3 ≠ pg := fun z => by rw [z, s2 _ _ upd_same] at hp3; cases hp3
    obtain ⟨di, hdi⟩ : ∃ di, (kidsD x ps)[i]? = some di := ⟨_, List.getElem?_eq_getElem (by omega)⟩
    obtain ⟨ei, hei⟩ : ∃ ei, (kidsD x qs)[i]? = some ei := ⟨_, List.getElem?_eq_getElem (by omega)⟩
    obtain ⟨ui, hui, rui⟩ := r2.get hdi
    obtain ⟨wi, hwi, rwi⟩ := r3.get hei
    have nt : ∀ vs, H3 pg ≠ some (.tup vs) := fun vs z => by rw [hg3] at z; cases z
    have rui := rui.monoX s4 nt
    have rwi := rwi.monoX s4 nt
    have h24 := s4 _ _ ng2 h2
    have h34 := s4 _ _ ng3 h3
    refine ⟨⟨us, ws, ui, wi, SqL.of h24, SqL.of h34, hui, hwi⟩, ?_⟩
    rintro x' H4' ⟨q5, p5, x5, y5, rfl, hq5, hpq, hp5, rfl, hy⟩
    obtain ⟨hx5, hy5⟩ := hy us ws (SqL.of h24) (SqL.of h34)
    rw [hui] at hx5
    rw [hwi] at hy5
    cases hx5
    cases hy5
    have hp5' : (upd H4 q5 (.tup [ui, wi])) p5 = none := by rw [upd_ne hpq]; exact hp5
    have s5a := same_new hq5 (.tup [ui, wi])
    have s5b := same_new hp5' (.tup [V.int (i : Nat), .ref q5])
    have s5 := s5a.trans s5b
    have rq5 : Rep (upd (upd H4 q5 (.tup [ui, wi])) p5 (.tup [V.int (i : Nat), .ref q5])) (.tup [di, ei]) (.ref q5) := (rep_new hq5 (rs rui (rs rwi r0))).mono s5b
    have hq5' := s5b _ _ (show (upd H4 q5 (.tup [ui, wi])) q5 = some (.tup [ui, wi]) from upd_same)
    have hp5'' : (upd (upd H4 q5 (.tup [ui, wi])) p5 (.tup [V.int (i : Nat), .ref q5])) p5 = some (.tup [V.int (i : Nat), .ref q5]) := upd_same
    generalize upd (upd H4 q5 (.tup [ui, wi])) p5 (.tup [V.int (i : Nat), .ref q5]) = H5 at s5 rq5 hq5' hp5'' ⊢
    clear s5a s5b hp5'
    obtain ⟨⟨ka, wa⟩, da⟩ := wf_kid wf hdi
    obtain ⟨⟨kb, wb⟩, db⟩ := wf_kid wf' hei
    obtain ⟨gn, gd⟩ := go_nb okg
    have nb5 : nbD (.tup [di, ei]) = true := by
      show (nbD di && (nbD ei && true)) = true
      rw [wf_nb wa, wf_nb wb]
      rfl
    have rg5 := rg.mono s5
    have hg5 := s5 _ _ hg
    have s45 : SameX pg H3 H5 := s4.trans s5.x
    rw [drop_cons hdi, drop_cons hei, prtL] at hf
    refine ⟨p5, _, rfl, SqT.of hp5'', rfl, _, _, rfl, _, _, rfl, rfl, ?_⟩
    refine ⟨_, rfl, _, rfl, pg, gs, .tup [di, ei], gds, rfl, hg5, rq5, rg5, nb5, gn, gd, _, rfl, ite2 (fun cg => ?_) (fun _ => ?_)⟩
    · obtain ⟨p', q', eg, e, _⟩ := okg _ (of_eqB cg)
      injection eg with eg
      injection eg with e1 eg
      injection eg with e2 eg
      subst e1 e2
      rw [e] at hf
      exact ⟨_, _, _, gs, gds, rfl, s45, hg5, rg5, by omega, okg, hf⟩
    refine ⟨_, rfl, q5, _, _, _, rfl, rfl, SqT.of hq5', atI_nat (j := 0) rfl, _, rfl, q5, _, _, _, rfl, rfl, SqT.of hq5', atI_nat (j := 1) rfl, di, ei, ui, wi, rfl, rui.mono s5, rwi.mono s5, ⟨ka, wa⟩, ⟨kb, wb⟩, (by omega), (by omega), (by omega), fun r6 H6 s6 f6 => ?_⟩
    have hg6 := s6 _ _ hg5
    cases ef : prtD di ei with
    | none =>
      rw [ef] at f6 hf
      cases (show r6 = V.non from f6)
      refine ⟨_, rfl, rfl, _, rfl, ite2 (fun c => absurd c (by decide)) (fun _ => ?_)⟩
      refine ⟨_, rfl, .inl ⟨rfl, _, SqL.of hg6⟩, _, rfl, pg, gs, .ref q5, rfl, rfl, hg6, (by rw [sizeLine_eq]; omega), ?_⟩
      refine ⟨_, _, _, gs ++ [.ref q5], gds ++ [.tup [di, ei]], rfl, (s45.trans s6.x).trans (SameX.upd _), upd_same, ((rg5.mono s6).snoc (rq5.mono s6)).updL hg6, (by simp; omega), fun g hgm => ?_, hf⟩
      rcases List.mem_append.mp hgm with z | z
      · exact okg g z
      · rw [List.mem_singleton.mp z]
        exact ⟨di, ei, rfl, ef, wf_nb wa, wf_nb wb, by omega, by omega⟩
    | some pl =>
      rw [ef] at f6 hf
      have hf : prtL 0 (kidsD x ps) (kidsD x qs) = some (i :: pl) := hf
      rw [hf] at q
      have hlen := prt_len n di ei ka (by omega) wa pl ef
      obtain ⟨bb, vs, rfl, hbb, rb⟩ := (show Rep H6 (plD pl) r6 from f6)
      have lb := rb.length
      rw [List.length_map] at lb
      refine ⟨_, rfl, rfl, _, rfl, ite2 (fun _ => ?_) (fun c => absurd rfl c)⟩
      refine ⟨_, rfl, (by show 1 ≤ sizeLine; decide), fun p9 hp9 => ?_⟩
      have s9 := same_new hp9 (.tup [V.int (i : Nat)])
      refine ⟨_, rfl, p9, bb, _, _, rfl, rfl, upd_same, s9 _ _ hbb, ?_, fun p8 H8 s8 h8 => ?_⟩
      · rw [sizeLine_eq, List.length_singleton]; omega
      have s98 := s9.trans s8
      have sx : SameX pg H3 H8 := (s45.trans s6.x).trans s98.x
      exact q _ _ (fun b o hb => sx b o (ne_of_none hb hpg0) (s13 b o hb)) (rep_pcons h8 (rb.mono s98))
  · rintro σ' H4 ⟨nv, kv, sv, gs, gds, rfl, s4, hg, rg, lg, okg, hf⟩
    have ng2 : p2 ≠ pg := fun z => by rw [z] at hp2; exact absurd (hp2.symm.trans upd_same) (by simp)
    have ng3 : p3 ≠ pg := fun z => by rw [z, s2 _ _ upd_same] at hp3; cases hp3
    refine ⟨⟨us, ws, SqL.of (s4 _ _ ng2 h2), SqL.of (s4 _ _ ng3 h3), rfl⟩, ?_⟩
    rw [List.drop_eq_nil_of_le (by omega), List.drop_eq_nil_of_le (by omega), show prtL us.length [] [] = none by simp [prtL]] at hf
    rw [hf] at q
    exact q _ _ (fun b o hb => s4 b o (ne_of_none hb hpg0) (s13 b o hb)) rfl
theorem c_parting (D : Df K mg "parting" s_parting ["one", "other"]) (M : Mg mg t) (F_is_unlike : Cal P w K mg CX0 "is_unlike" (1) ["one", "other"] spUnl) (F_kids_of : Cal P w K mg CX0 "kids_of" (1) ["thing"] spKids) : ∀ n : Nat, Cal P w K mg CX0 "parting" (n + 3) ["one", "other"] (spPart n)
  | 0 => Cal.never D fun vs H Q E ⟨d, e, v, u, _, _, _, _, _, h, _⟩ => absurd h (Nat.not_lt_zero _)
  | n + 1 => st_parting D M F_is_unlike F_kids_of (c_parting D M F_is_unlike F_kids_of n)
end K30
end
section
set_option maxHeartbeats 2000000
namespace K30
open PySem L2 L3 KM PyProof.Rows
seal L2.PE L2.PS L2.PSs L2.PT L2.PW L2.PA L2.PG L2.PGs L2.PI L2.PC L2.PO L2.PPs L2.PK L3.PIf
variable {P : Program} {w : World} {K : PySem.W.Frag} {mg : Str → Option Value} {base : Heap} {t : Adr}
def atN : D → List Nat → Option D
  | d, [] => some d
  | .tup (.str x :: ps), i :: is => match (kidsD x ps)[i]? with
    | some p => atN p is
    | none => none
  | _, _ :: _ => none
def witD : D → List Nat → D → D
  | _, [], e => e
  | .tup (.str x :: ps), i :: is, e => .tup (.str x :: ps.set i (witD ((ps[i]?).getD .non) is e))
  | d, _ :: _, _ => d
theorem at_cons {x : Str} {ps : List D} {i : Nat} {is : List Nat} {g : D} (h : atN (.tup (.str x :: ps)) (i :: is) = some g) : ∃ p, (kidsD x ps)[i]? = some p ∧ leafW x = false ∧ ps[i]? = some p ∧ atN p is = some g := by
  rw [atN] at h
  cases e : (kidsD x ps)[i]? with
  | none => rw [e] at h; cases h
  | some p =>
    rw [e] at h
    refine ⟨p, rfl, ?_⟩
    unfold kidsD at e
    split at e
    · simp at e
    · rename_i hx
      exact ⟨by simpa using hx, e, h⟩
theorem wfL_set {nm : D → Bool} : ∀ {cs : List Nat} {ps : List D} {i c : Nat} {q : D}, wfL nm cs ps = true → cs[i]? = some c → dueB nm c q = true → wfL nm cs (ps.set i q) = true
  | [], [], _, _, _, _, e, _ => by simp at e
  | [], _ :: _, _, _, _, h, _, _ => by simp [wfL] at h
  | _ :: _, [], _, _, _, h, _, _ => by simp [wfL] at h
  | a :: cs, p :: ps, 0, c, q, h, e, hq => by
    simp at e
    subst e
    rw [wfL_cons, Bool.and_eq_true] at h
    rw [List.set_cons_zero, wfL_cons, hq, h.2]
    rfl
  | a :: cs, p :: ps, i + 1, c, q, h, e, hq => by
    rw [wfL_cons, Bool.and_eq_true] at h
    rw [List.set_cons_succ, wfL_cons, h.1, wfL_set h.2 (by simpa using e) hq]
    rfl
theorem wfL_at {nm : D → Bool} : ∀ {cs : List Nat} {ps : List D} {i : Nat} {p : D}, wfL nm cs ps = true → ps[i]? = some p → ∃ c, cs[i]? = some c ∧ dueB nm c p = true
  | [], [], _, _, _, e => by simp at e
  | [], _ :: _, _, _, h, _ => by simp [wfL] at h
  | _ :: _, [], _, _, h, _ => by simp [wfL] at h
  | a :: cs, p :: ps, 0, q, h, e => by
    simp at e
    subst e
    rw [wfL_cons, Bool.and_eq_true] at h
    exact ⟨a, rfl, h.1⟩
  | a :: cs, p :: ps, i + 1, q, h, e => by
    rw [wfL_cons, Bool.and_eq_true] at h
    obtain ⟨c, h1, h2⟩ := wfL_at (i := i) h.2 (by simpa using e)
    exact ⟨c, by simpa using h1, h2⟩
theorem wf_one {nm : D → Bool} {k k' : Bool} {d : D} (h : wfG nm k d = true) (h' : wfG nm k' d = true) : k = k' := by
  obtain ⟨x, ps, rfl⟩ := wf_form h
  obtain ⟨_, _, e1, _⟩ := wf_shape h
  obtain ⟨_, _, e2, _⟩ := wf_shape h'
  rw [← e1, ← e2]
theorem wit_wf {e g : D} {k' : Bool} (hg : wfG isStrD k' g = true) (he : wfG isStrD k' e = true) : ∀ (pl : List Nat) (d : D) (k : Bool), wfG isStrD k d = true → atN d pl = some g → wfG isStrD k (witD d pl e) = true
  | [], d, k, h, z => by
    rw [atN] at z
    cases z
    rw [witD, wf_one h hg]
    exact he
  | i :: is, d, k, h, z => by
    obtain ⟨x, ps, rfl⟩ := wf_form h
    obtain ⟨p, hk, hx, hp, z⟩ := at_cons z
    rw [witD, hp]
    show wfG isStrD k (.tup (.str x :: ps.set i (witD p is e))) = true
    obtain ⟨s, h1, h2, h3, h4, h5, h6, h7, _⟩ := wf_shape h
    obtain ⟨c, hc, hd⟩ := wfL_at h3 hp
    refine wfG_mk h1 h2 (wfL_set h3 hc ?_)
    have hc2 := h7 hx c (List.mem_of_getElem? hc)
    unfold dueB at hd ⊢
    rcases hc2 with z1 | z1
    · rw [if_pos z1] at hd ⊢
      exact wit_wf hg he is p true hd z
    · rw [if_neg (by omega), if_pos z1] at hd ⊢
      exact wit_wf hg he is p false hd z
theorem knots_set {q : D} : ∀ {ps : List D} {i : Nat} {p : D}, ps[i]? = some p → knotsL (ps.set i q) + knots p = knotsL ps + knots q
  | [], _, _, e => by simp at e
  | a :: ps, 0, p, e => by
    simp at e
    subst e
    rw [List.set_cons_zero]
    simp only [knotsL]
    omega
  | a :: ps, i + 1, p, e => by
    rw [List.set_cons_succ]
    have := knots_set (q := q) (ps := ps) (i := i) (p := p) (by simpa using e)
    simp only [knotsL]
    omega
theorem depth_set {q : D} {m : Nat} (hq : depth q ≤ m) : ∀ {ps : List D} {i : Nat}, depthL ps ≤ m → depthL (ps.set i q) ≤ m
  | [], _, h => by simpa using h
  | a :: ps, 0, h => by
    rw [List.set_cons_zero]
    simp only [depthL] at h ⊢
    omega
  | a :: ps, i + 1, h => by
    rw [List.set_cons_succ]
    simp only [depthL] at h ⊢
    have := depth_set (q := q) (m := m) hq (ps := ps) (i := i) (by omega)
    omega
theorem wit_size {e g : D} : ∀ (pl : List Nat) (d : D), Wf d → atN d pl = some g → knots (witD d pl e) ≤ knots d + knots e ∧ depth (witD d pl e) ≤ depth d + depth e
  | [], d, _, _ => by
    rw [witD]
    omega
  | i :: is, d, ⟨k, h⟩, z => by
    obtain ⟨x, ps, rfl⟩ := wf_form h
    obtain ⟨p, hk, hx, hp, z⟩ := at_cons z
    rw [witD, hp]
    show knots (.tup (.str x :: ps.set i (witD p is e))) ≤ _ ∧ depth (.tup (.str x :: ps.set i (witD p is e))) ≤ _
    obtain ⟨a1, a2⟩ := wit_size (e := e) is p (wf_kid h hk).1 z
    have b1 := knots_set (q := witD p is e) hp
    have b2 := depth_get hp
    have b3 := depth_set (q := witD p is e) (m := depthL ps + depth e) (by omega) (ps := ps) (i := i) (by omega)
    simp only [knots, knotsL, depth, depthL]
    omega
mutual
theorem rows_at : ∀ (pl : List Nat) (d : D), ∀ r ∈ rowsD pl d, ∃ q, r.1 = pl ++ q ∧ atN d q = some r.2
  | pl, .tup (.str x :: ps), r, h => by
    rw [rowsD_eq] at h
    rcases List.mem_cons.mp h with rfl | h
    · exact ⟨[], by simp, by rw [atN]⟩
    · have key : ∀ r ∈ rowsL pl 0 (kidsD x ps), ∃ (i : Nat) (p : D) (q : List Nat), (kidsD x ps)[i]? = some p ∧ r.1 = pl ++ (0 + i) :: q ∧ atN p q = some r.2 := by
        unfold kidsD
        split
        · intro r h; rw [rowsL] at h; cases h
        · exact rowsL_at pl 0 ps
      obtain ⟨i, p, q, h1, h2, h3⟩ := key r h
      rw [Nat.zero_add] at h2
      exact ⟨i :: q, h2, by rw [atN, h1]; exact h3⟩
  | pl, .tup [], r, h => by simp [rowsD] at h
  | pl, .tup (.non :: _), r, h => by simp [rowsD] at h
  | pl, .tup (.bl _ :: _), r, h => by simp [rowsD] at h
  | pl, .tup (.int _ :: _), r, h => by simp [rowsD] at h
  | pl, .tup (.tup _ :: _), r, h => by simp [rowsD] at h
  | pl, .non, r, h => by simp [rowsD] at h
  | pl, .bl _, r, h => by simp [rowsD] at h
  | pl, .int _, r, h => by simp [rowsD] at h
  | pl, .str _, r, h => by simp [rowsD] at h
theorem rowsL_at : ∀ (pl : List Nat) (j : Nat) (ds : List D), ∀ r ∈ rowsL pl j ds, ∃ (i : Nat) (p : D) (q : List Nat), ds[i]? = some p ∧ r.1 = pl ++ (j + i) :: q ∧ atN p q = some r.2
  | pl, j, [], r, h => by simp [rowsL] at h
  | pl, j, d :: ds, r, h => by
    rw [rowsL] at h
    rcases List.mem_append.mp h with h | h
    · obtain ⟨q, h1, h2⟩ := rows_at (pl ++ [j]) d r h
      exact ⟨0, d, q, rfl, by rw [h1]; simp, h2⟩
    · obtain ⟨i, p, q, h1, h2, h3⟩ := rowsL_at pl (j + 1) ds r h
      exact ⟨i + 1, p, q, by simpa using h1, by rw [h2, show j + 1 + i = j + (i + 1) by omega], h3⟩
end
theorem at_wf : ∀ (pl : List Nat) (d g : D), Wf d → atN d pl = some g → Wf g ∧ pl.length + depth g ≤ depth d
  | [], d, g, h, z => by
    rw [atN] at z
    cases z
    exact ⟨h, by simp⟩
  | i :: is, d, g, ⟨k, h⟩, z => by
    obtain ⟨x, ps, rfl⟩ := wf_form h
    obtain ⟨p, hk, hx, hp, z⟩ := at_cons z
    obtain ⟨w1, w2⟩ := wf_kid h hk
    obtain ⟨a1, a2⟩ := at_wf is p g w1 z
    exact ⟨a1, by rw [List.length_cons]; omega⟩
theorem pl_reps {H : Hp} : ∀ {pl : List Nat} {ws : List V}, Reps H (pl.map fun i => D.int (i : Nat)) ws → ws = (pl.map fun i => ((i : Nat) : Int)).map V.int
  | [], _, r => r
  | i :: is, _, ⟨u, r, e, hu, t⟩ => by
    subst e
    rw [show u = V.int (i : Nat) from hu, pl_reps t]
    rfl
theorem reps_pl {H : Hp} : ∀ pl : List Nat, Reps H (pl.map fun i => D.int (i : Nat)) ((pl.map fun i => ((i : Nat) : Int)).map V.int)
  | [] => rfl
  | i :: is => ⟨_, _, rfl, rfl, reps_pl is⟩
theorem reps_set {H : Hp} {q : D} {u : V} (h : Rep H q u) : ∀ {ps : List D} {us : List V} {i : Nat}, Reps H ps us → Reps H (ps.set i q) (us.set i u)
  | [], us, i, r => by cases (show us = [] from r); exact rfl
  | p :: ps, _, 0, ⟨v, r, e, a, b⟩ => by subst e; exact ⟨u, r, rfl, h, b⟩
  | p :: ps, _, i + 1, ⟨v, r, e, a, b⟩ => by subst e; exact ⟨v, _, rfl, a, reps_set h b⟩
def spWith (n : Nat) : Sp := fun vs H Q _ => ∃ (d : D) (v : V) (pl : List Nat) (pw : V) (e : D) (ev : V), vs = [v, pw, ev] ∧ Rep H d v ∧ Wf d ∧ Rep H (plD pl) pw ∧ Rep H e ev ∧ pl.length < n ∧ (atN d pl).isSome = true ∧ ∀ (u : V) (H' : Hp), Same H H' → Rep H' (witD d pl e) u → Q u H'
theorem sc_law_with : FnScope ["_law_thing_here", "_law_place", "_law_new", "_law_at"] ["_law_thing_here", "_law_place", "_law_new"] (defScope s_law_with) := ⟨rfl, rfl, rfl, by decide +kernel, rfl, by decide +kernel, by decide +kernel⟩
theorem st_law_with {n : Nat} (D : Df K mg "_law_with" s_law_with ["_law_thing_here", "_law_place", "_law_new"]) (M : Mg mg t) (F_law_with : Cal P w K mg CX0 "_law_with" (n) ["_law_thing_here", "_law_place", "_law_new"] (spWith n)) : Cal P w K mg CX0 "_law_with" (n + 1) ["_law_thing_here", "_law_place", "_law_new"] (spWith (n + 1)) := by
  refine D.ok sc_law_with (fun vs H Q E h => ?_) (fun base f cdv A outer s H vs Q E hr h => ?_)
  · obtain ⟨d, v, pl, pw, e, ev, rfl, _⟩ := h
    rfl
  obtain ⟨d, v, pl, pw, e, ev, rfl, r, wf, rp, re, hn, hg, q⟩ := h
  have hu := hu_of hr
  obtain ⟨x, ps, k, rfl, wfk, hps⟩ := wf_ps wf
  obtain ⟨a, ws, rfl, ha, rw'⟩ := id rp
  obtain ⟨b, us0, rfl, hb, v0, us, rfl, ⟨rfl, hx⟩, rps⟩ := id r
  refine ⟨_, (pss_cons (ps_if (pt_cmpR (op_eqIK (K := K) hu) (pv 1) (pe_tup pa_nil) (nomark _)) (pss_one (ps_ret (pv 2))) pss_nil)
      (pss_cons (ps_set (i := 3) sc_law_with.nd rfl (by first | exact Or.inl rfl | exact Or.inr rfl) (pe_op op_add (pe_ix ix_tup (pv 1) pe_int (fun _ _ => rfl)) pe_int))
      (pss_one (ps_ret (pe_op op_catU (pe_op op_catU (pe_slice sl_tupU (pv 0) po_none (po_some (pv 3))) (pe_tup (pa_cons (pe_fn F_law_with (hr.mono (by omega)) rfl pass0 (pa_cons (pe_ix ix_tup (pv 0) (pv 3) (fun _ _ => rfl)) (pa_cons (pe_slice sl_tupU (pv 1) (po_some pe_int) po_none) (pa_cons (pv 2) pa_nil)))) pa_nil))) (pe_slice sl_tupU (pv 0) (po_some (pe_op op_add (pv 3) pe_int)) po_none)))))), ?_⟩
  try dsimp only [cxK, cxK2]
  refine let3 ?_
  intro _ _ _
  have ews := pl_reps rw'
  subst ews
  refine ⟨_, rfl, (by show 0 ≤ sizeLine; decide), fun p0 hp0 => ?_⟩
  have s0 := same_new hp0 (.tup [])
  refine ⟨a, p0, _, [], rfl, rfl, SqT.of (s0 _ _ ha), SqT.of upd_same, _, rfl, ?_⟩
  refine ite2 (fun c => ?_) (fun c => ?_)
  · have c : pl = [] := by simpa using of_decide_eq_true c
    subst c
    exact ⟨_, rfl, q ev _ s0 (by rw [witD]; exact re.mono s0)⟩
  have c : pl ≠ [] := fun z => of_decide_eq_false (Bool.eq_false_iff.mpr c) (by rw [z]; rfl)
  obtain ⟨m, is, rfl⟩ : ∃ i is, pl = i :: is := by
    cases pl with
    | nil => exact absurd rfl c
    | cons i is => exact ⟨i, is, rfl⟩
  generalize upd H p0 (.tup []) = H0 at s0 ⊢
  obtain ⟨g, hg'⟩ := Option.isSome_iff_exists.mp hg
  obtain ⟨p, hk, hxl, hp, hz⟩ := at_cons hg'
  obtain ⟨up, hup, rup⟩ := rps.get hp
  have hml : m < us.length := (List.getElem?_eq_some_iff.mp hup).1
  have lps := rps.length
  refine ⟨_, rfl, a, _, _, _, rfl, rfl, SqT.of (s0 _ _ ha), atI_nat (j := 0) rfl, _, _, rfl, rfl, ?_⟩
  have em : (m : Int) + 1 = ((m + 1 : Nat) : Int) := by omega
  show gName 3 (V.int ((m : Int) + 1)) _ _ _
  rw [em]
  refine ⟨_, rfl, _, rfl, _, rfl, b, _, rfl, s0 _ _ hb, fun b1 H1 s1 h1 => ?_⟩
  rw [cutV_to] at h1
  have s01 := s0.trans s1
  have hix : atI (V.str x :: us) ((m + 1 : Nat) : Int) = some up := atI_nat (by simpa using hup)
  refine ⟨_, rfl, _, rfl, b, _, _, up, rfl, rfl, SqT.of (s01 _ _ hb), hix, _, rfl, _, rfl, a, _, rfl, s01 _ _ ha, fun b2 H2 s2 h2 => ?_⟩
  have h2 : H2 b2 = some (.tup ((is.map fun i => ((i : Nat) : Int)).map V.int)) := by
    have z := cutV_from (List.map V.int ((m :: is).map fun i => ((i : Nat) : Int))) 1
    rw [show ((1 : Nat) : Int) = 1 from rfl] at z
    rw [z] at h2
    exact h2
  have s02 := s01.trans s2
  refine ⟨_, rfl, p, up, is, .ref b2, e, ev, rfl, rup.mono s02, (wf_kid wfk hk).1, ⟨b2, _, rfl, h2, reps_pl is⟩, re.mono s02, (by rw [List.length_cons] at hn; omega), (by rw [hz]; rfl), fun u3 H3 s3 r3 => ⟨(by show 1 ≤ sizeLine; decide), fun b4 hb4 => ?_⟩⟩
  have s4 := same_new hb4 (.tup [u3])
  have s14 := s2.trans (s3.trans s4)
  refine ⟨b1, b4, _, _, rfl, rfl, s14 _ _ h1, upd_same, ?_, fun b5 H5 s5 h5 => ?_⟩
  · rw [List.length_take, List.length_singleton, show sizeLine = 16777216 by decide, List.length_cons]; omega
  have s05 := s01.trans (s14.trans s5)
  refine ⟨_, rfl, _, rfl, _, _, rfl, rfl, ?_⟩
  refine ⟨((m + 2 : Nat) : Int), congrArg V.int (by omega), b, _, rfl, s05 _ _ hb, fun b6 H6 s6 h6 => ?_⟩
  rw [cutV_from] at h6
  refine ⟨b5, b6, _, _, rfl, rfl, s6 _ _ h5, h6, ?_, fun b7 H7 s7 h7 => ?_⟩
  · rw [List.length_append, List.length_take, List.length_singleton, List.length_drop, show sizeLine = 16777216 by decide, List.length_cons]; omega
  have s67 := s6.trans s7
  refine q _ H7 (s05.trans s67) ?_
  rw [witD, hp]
  refine ⟨b7, _, rfl, h7, ?_⟩
  have el : List.take (m + 1) (V.str x :: us) ++ [u3] ++ List.drop (m + 2) (V.str x :: us) = V.str x :: us.set m u3 := by
    rw [List.take_succ_cons, List.drop_succ_cons, List.set_eq_take_append_cons_drop, if_pos hml]
    simp
  rw [el]
  exact ⟨_, _, rfl, ⟨rfl, hx⟩, reps_set (r3.mono (s4.trans (s5.trans s67))) (rps.mono (s05.trans s67))⟩
theorem c_law_with (D : Df K mg "_law_with" s_law_with ["_law_thing_here", "_law_place", "_law_new"]) (M : Mg mg t) : ∀ n : Nat, Cal P w K mg CX0 "_law_with" (n) ["_law_thing_here", "_law_place", "_law_new"] (spWith n)
  | 0 => Cal.never D fun vs H Q E ⟨d, v, pl, pw, e, ev, _, _, _, _, _, h, _⟩ => absurd h (Nat.not_lt_zero _)
  | n + 1 => st_law_with D M (c_law_with D M n)
end K30
end
section
set_option maxHeartbeats 2000000
namespace K30
open PySem L2 L3 KM PyProof.Rows
seal L2.PE L2.PS L2.PSs L2.PT L2.PW L2.PA L2.PG L2.PGs L2.PI L2.PC L2.PO L2.PPs L2.PK L3.PIf
variable {P : Program} {w : World} {K : PySem.W.Frag} {mg : Str → Option Value} {base : Heap} {t : Adr}
theorem fu_drop {R S : List Rp} {j : Nat} {r s : Rp} (h1 : R[j]? = some r) (h2 : S[j]? = some s) : fuR (R.drop j) (S.drop j) = if unD r.2 s.2 = true then some r.1 else fuR (R.drop (j + 1)) (S.drop (j + 1)) := by
  obtain ⟨l1, e1⟩ := List.getElem?_eq_some_iff.mp h1
  obtain ⟨l2, e2⟩ := List.getElem?_eq_some_iff.mp h2
  rw [List.drop_eq_getElem_cons l1, List.drop_eq_getElem_cons l2, e1, e2, fuR]
theorem fu_end {R S : List Rp} {j : Nat} (h : j = R.length ∨ j = S.length) : fuR (R.drop j) (S.drop j) = none := by
  rcases h with rfl | rfl
  · rw [List.drop_length]
    simp [fuR]
  · rw [List.drop_length]
    cases R.drop S.length <;> simp [fuR]
def spDue : Sp := fun vs H Q _ => ∃ (d e : D) (v u : V), vs = [v, u] ∧ Rep H d v ∧ Rep H e u ∧ Wf d ∧ Wf e ∧ depth d ≤ 70 ∧ depth e ≤ 70 ∧ knots d ≤ 1000000 ∧ knots e ≤ 1000000 ∧ ∀ (r : V) (H' : Hp), Same H H' → PtV H' (prtD d e) r → Q r H'
theorem sc_law_due : FnScope ["_law_one", "_law_other", "_law_rows_here", "_law_others", "_law_k"] ["_law_one", "_law_other"] (defScope s_law_due) := ⟨rfl, rfl, rfl, by decide +kernel, rfl, by decide +kernel, by decide +kernel⟩
theorem c_law_due (D : Df K mg "_law_due" s_law_due ["_law_one", "_law_other"]) (M : Mg mg t) (F_law_rows : Cal P w K mg CX0 "_law_rows" (2) ["_law_thing_here", "_law_book_here"] spRows) (F_law_unlike : Cal P w K mg CX0 "_law_unlike" (1) ["_law_here", "_law_there"] spUnl) : Cal P w K mg CX0 "_law_due" (133) ["_law_one", "_law_other"] spDue := by
  refine D.ok sc_law_due (fun vs H Q E h => ?_) (fun base f cdv A outer s H vs Q E hr h => ?_)
  · obtain ⟨d, e, v, u, rfl, _⟩ := h
    rfl
  obtain ⟨d, e, v, u, rfl, r, r', wfd, wfe, hd, he, kd, ke, q⟩ := h
  have hh := hr.hd (by decide)
  obtain ⟨k, wf⟩ := wfd
  obtain ⟨k', wf'⟩ := wfe
  rw [← fu_due (n := 71) (by omega) wf wf'] at q
  refine ⟨_, (pss_cons (ps_set (i := 2) sc_law_due.nd rfl (by first | exact Or.inl rfl | exact Or.inr rfl) (pe_fn F_law_rows (hr.mono (by omega)) rfl pass0 (pa_cons (pv 0) (pa_cons pe_dnewK pa_nil))))
      (pss_cons (ps_set (i := 3) sc_law_due.nd rfl (by first | exact Or.inl rfl | exact Or.inr rfl) (pe_fn F_law_rows (hr.mono (by omega)) rfl pass0 (pa_cons (pv 1) (pa_cons pe_dnewK pa_nil))))
      (pss_cons (ps_for PassesOwn.never rfl (pi_range1 rfl M.n_range (pa_cons (pe_callB (call_min2 hh) rfl M.n_min bt_min (pa_cons (pe_callB call_len_seq rfl M.n_len bt_len (pa_cons (pv 2) pa_nil)) (pa_cons (pe_callB call_len_seq rfl M.n_len bt_len (pa_cons (pv 3) pa_nil)) pa_nil))) pa_nil)) (pg_name (i := 4) sc_law_due.nd rfl (by first | exact Or.inl rfl | exact Or.inr rfl)) (pss_one (ps_if (pt_val (pe_fn F_law_unlike (hr.mono (by omega)) rfl pass0 (pa_cons (pe_ix ix_tup (pe_ix ix_list (pv 2) (pv 4) (fun _ _ => rfl)) pe_int (fun _ _ => rfl)) (pa_cons (pe_ix ix_tup (pe_ix ix_list (pv 3) (pv 4) (fun _ _ => rfl)) pe_int (fun _ _ => rfl)) pa_nil)))) (pss_one (ps_ret (pe_ix ix_tup (pe_ix ix_list (pv 2) (pv 4) (fun _ _ => rfl)) pe_int (fun _ _ => rfl)))) pss_nil)))
      (pss_one (ps_ret pe_non))))), ?_⟩
  try dsimp only [cxK, cxK2]
  refine let4 ?_
  intro _ _ _ _
  refine ⟨_, rfl, fun b1 hb1 => ?_⟩
  have t1 := same_new hb1 (.dK [])
  refine ⟨d, v, b1, [], rfl, r.mono t1, ⟨k, wf⟩, (by omega), kd, upd_same, fun f1 fs1 H1 _ s1 hf1 rf1 => ?_⟩
  have s1 := t1.trans s1
  refine ⟨_, rfl, fun b2 hb2 => ?_⟩
  have t2 := same_new hb2 (.dK [])
  refine ⟨e, u, b2, [], rfl, (r'.mono s1).mono t2, ⟨k', wf'⟩, (by omega), ke, upd_same, fun f2 fs2 H2 _ s2 hf2 rf2 => ?_⟩
  have s2 := t2.trans s2
  have hf1 := s2 _ _ hf1
  have rf1 := rf1.mono s2
  have s12 := s1.trans s2
  have l1 := rf1.length
  have l2 := rf2.length
  rw [List.length_map] at l1 l2
  have m1 := rowsD_len [] d
  have m2 := rowsD_len [] e
  refine ⟨_, rfl, f1, _, rfl, .inl (SqL.of hf1), _, rfl, f2, _, rfl, .inl (SqL.of hf2), _, _, rfl, _, rfl, (by split <;> omega), (by split <;> omega), ?_⟩
  have em : (if ((fs2.length : Nat) : Int) < ((fs1.length : Nat) : Int) then ((fs2.length : Nat) : Int) else ((fs1.length : Nat) : Int)).toNat = min fs1.length fs2.length := by split <;> omega
  rw [em]
  let Ifr : Nat → L2.St → Hp → Prop := (fun j σ' H' => ∃ (kv : Option V), σ' = [some v, some u, some (.ref f1), some (.ref f2), kv] ∧ Same H2 H' ∧ fuR (rowsD [] d) (rowsD [] e) = fuR ((rowsD [] d).drop j) ((rowsD [] e).drop j))
  refine for_by (min fs1.length fs2.length) Ifr ?_ ?_ ?_
  · exact ⟨none, rfl, Same.refl _, rfl⟩
  · rintro j σ' H3 hj ⟨kv, rfl, s3, hf⟩
    refine ⟨hj, ?_⟩
    rintro x' H4 ⟨rfl, rfl⟩
    have e0 : (0 : Int) + (j : Int) = ((j : Nat) : Int) := by omega
    rw [e0]
    obtain ⟨a1, ha1⟩ : ∃ r, (rowsD [] d)[j]? = some r := ⟨_, List.getElem?_eq_getElem (by omega)⟩
    obtain ⟨a2, ha2⟩ : ∃ r, (rowsD [] e)[j]? = some r := ⟨_, List.getElem?_eq_getElem (by omega)⟩
    rw [fu_drop ha1 ha2] at hf
    obtain ⟨u1, hu1, ru1⟩ := rf1.get (i := j) (d := rowD (inB []) a1) (by rw [List.getElem?_map, ha1]; rfl)
    obtain ⟨u2, hu2, ru2⟩ := rf2.get (i := j) (d := rowD (inB []) a2) (by rw [List.getElem?_map, ha2]; rfl)
    obtain ⟨y1, z1, z2⟩ := rows_at [] d a1 (List.mem_of_getElem? ha1)
    obtain ⟨y2, z3, z4⟩ := rows_at [] e a2 (List.mem_of_getElem? ha2)
    obtain ⟨⟨⟨k1, w1⟩, g1⟩, ⟨⟨k2, w2⟩, g2⟩⟩ := And.intro (at_wf _ _ _ ⟨k, wf⟩ z2) (at_wf _ _ _ ⟨k', wf'⟩ z4)
    obtain ⟨x1, ps1, e1⟩ := wf_form w1
    obtain ⟨x2, ps2, e2⟩ := wf_form w2
    obtain ⟨qa, _, rfl, hqa, ⟨v1, _, rfl, rp1, ⟨v2, _, rfl, rn1, _⟩⟩⟩ := ru1.mono s3
    obtain ⟨qb, _, rfl, hqb, ⟨w1', _, rfl, _, ⟨w2', _, rfl, rn2, _⟩⟩⟩ := ru2.mono s3
    refine ⟨_, rfl, _, rfl, f1, _, _, _, rfl, rfl, SqL.of (s3 _ _ hf1), atI_nat hu1, qa, _, _, _, rfl, rfl, SqT.of hqa, atI_nat (j := 1) rfl, _, rfl, _, rfl, f2, _, _, _, rfl, rfl, SqL.of (s3 _ _ hf2), atI_nat hu2, qb, _, _, _, rfl, rfl, SqT.of hqb, atI_nat (j := 1) rfl, ?_⟩
    rw [e1] at rn1 w1 hf
    rw [e2] at rn2 w2 hf
    refine ⟨x1, ps1, x2, ps2, v2, w2', k1, k2, rfl, rn1, rn2, w1, w2, fun H5 s5 => ⟨_, rfl, ?_⟩⟩
    refine ite2 (fun c => ?_) (fun c => ?_)
    · have hf : fuR (rowsD [] d) (rowsD [] e) = some a1.1 := by
        rw [hf]
        exact if_pos c
      rw [hf] at q
      have s35 := s3.trans s5
      refine ⟨_, rfl, _, rfl, f1, _, _, _, rfl, rfl, SqL.of (s35 _ _ hf1), atI_nat hu1, qa, _, _, _, rfl, rfl, SqT.of (s5 _ _ hqa), atI_nat (j := 0) rfl, ?_⟩
      exact q _ _ (s12.trans s35) (rp1.mono s5)
    · have hf : fuR (rowsD [] d) (rowsD [] e) = fuR ((rowsD [] d).drop (j + 1)) ((rowsD [] e).drop (j + 1)) := by
        rw [hf]
        exact if_neg c
      exact ⟨_, rfl, s3.trans s5, hf⟩
  · rintro σ' H3 ⟨kv, rfl, s3, hf⟩
    rw [fu_end (by omega)] at hf
    rw [hf] at q
    exact ⟨Nat.le_refl _, q _ _ (s12.trans s3) rfl⟩
def nxD : Nat → D → D
  | 0, d => d
  | n + 1, d => nxD n (.tup [.str "next", d])
theorem nx_snoc : ∀ (n : Nat) (d : D), nxD (n + 1) d = .tup [.str "next", nxD n d]
  | 0, d => rfl
  | n + 1, d => by rw [nxD, nx_snoc n, nxD]
theorem nx_facts : ∀ (n : Nat) (d : D), wfG isStrD false d = true → wfG isStrD false (nxD n d) = true ∧ depth (nxD n d) = n + depth d ∧ knots (nxD n d) = n + knots d
  | 0, d, h => ⟨h, by simp [nxD], by simp [nxD]⟩
  | n + 1, d, h => by
    obtain ⟨h1, h2, h3⟩ := nx_facts n (.tup [.str "next", d]) (wf_next h)
    refine ⟨h1, ?_, ?_⟩
    · rw [nxD, h2]
      simp only [depth, depthL]
      omega
    · rw [nxD, h3]
      simp only [knots, knotsL]
      omega
def spNexts : Sp := fun vs H Q _ => ∃ (m : Nat) (d : D) (v : V), vs = [.int (m : Nat), v] ∧ m ≤ 100 ∧ Rep H d v ∧ ∀ (v' : V) (H' : Hp), Same H H' → Rep H' (nxD m d) v' → Q v' H'
theorem sc_law_nexts : FnScope ["_law_many", "_law_thing_here", "_law_k"] ["_law_many", "_law_thing_here"] (defScope s_law_nexts) := ⟨rfl, rfl, rfl, by decide +kernel, rfl, by decide +kernel, by decide +kernel⟩
theorem c_law_nexts (D : Df K mg "_law_nexts" s_law_nexts ["_law_many", "_law_thing_here"]) (M : Mg mg t) : Cal P w K mg CX0 "_law_nexts" (1) ["_law_many", "_law_thing_here"] spNexts := by
  refine D.ok sc_law_nexts (fun vs H Q E h => ?_) (fun base f cdv A outer s H vs Q E hr h => ?_)
  · obtain ⟨m, d, v, rfl, _⟩ := h
    rfl
  obtain ⟨m, d, v, rfl, hm, r, q⟩ := h
  refine ⟨_, (pss_cons (ps_for PassesOwn.never rfl (pi_range1 rfl M.n_range (pa_cons (pv 0) pa_nil)) (pg_name (i := 2) sc_law_nexts.nd rfl (by first | exact Or.inl rfl | exact Or.inr rfl)) (pss_one (ps_set (i := 1) sc_law_nexts.nd rfl (by first | exact Or.inl rfl | exact Or.inr rfl) (pe_tup (pa_cons pe_str (pa_cons (pv 1) pa_nil))))))
      (pss_one (ps_ret (pv 1)))), ?_⟩
  try dsimp only [cxK, cxK2]
  refine let2 ?_
  intro _ _
  refine ⟨_, rfl, _, rfl, (by omega), (by omega), ?_⟩
  rw [Int.toNat_natCast]
  let Ifr : Nat → L2.St → Hp → Prop := (fun j σ' H' => ∃ (v' : V) (kv : Option V), σ' = [some (.int (m : Nat)), some v', kv] ∧ Same H H' ∧ Rep H' (nxD j d) v')
  refine for_by m Ifr ?_ ?_ ?_
  · exact ⟨v, none, rfl, Same.refl _, r⟩
  · rintro j σ' H1 hj ⟨v', kv, rfl, s1, r1⟩
    refine ⟨hj, ?_⟩
    rintro x' H2 ⟨rfl, rfl⟩
    refine ⟨_, rfl, (by show 2 ≤ sizeLine; decide), fun p hp => ?_⟩
    refine ⟨_, _, rfl, s1.trans (same_new hp _), ?_⟩
    rw [nx_snoc]
    exact rep_new hp (rs rw_ (rs r1 r0))
  · rintro σ' H1 ⟨v', kv, rfl, s1, r1⟩
    exact ⟨Nat.le_refl _, _, rfl, q _ _ s1 r1⟩
end K30
end
section
set_option maxHeartbeats 2000000
namespace K30
open PySem L2 L3 KM PyProof.Rows
seal L2.PE L2.PS L2.PSs L2.PT L2.PW L2.PA L2.PG L2.PGs L2.PI L2.PC L2.PO L2.PPs L2.PK L3.PIf
variable {P : Program} {w : World} {K : PySem.W.Frag} {mg : Str → Option Value} {base : Heap} {t : Adr}
def spTold : Sp := fun vs H Q _ => ∃ (o : Option (List Nat)) (v u : V), vs = [v, u] ∧ PtV H o v ∧ PtV H o u ∧ ∀ H', Same H H' → Q (.bl true) H'
theorem sc_law_told : FnScope ["_law_found", "_law_due_here", "_law_number_here"] ["_law_found", "_law_due_here"] (defScope s_law_told) := ⟨rfl, rfl, rfl, by decide +kernel, rfl, by decide +kernel, by decide +kernel⟩
theorem c_law_told (D : Df K mg "_law_told" s_law_told ["_law_found", "_law_due_here"]) (M : Mg mg t) : Cal P w K mg CX0 "_law_told" (1) ["_law_found", "_law_due_here"] spTold := by
  refine D.ok sc_law_told (fun vs H Q E h => ?_) (fun base f cdv A outer s H vs Q E hr h => ?_)
  · obtain ⟨o, v, u, rfl, _⟩ := h
    rfl
  obtain ⟨o, v, u, rfl, hv, hu', q⟩ := h
  have hu := hu_of hr
  refine ⟨_, (pss_cons (ps_if (pt_cmpR op_isN (pv 1) pe_non (nomark _)) (pss_one (ps_ret (pe_cmpR op_isN (pv 0) pe_non (nomark _)))) pss_nil)
      (pss_cons (ps_if (L2.PW.pt (pw_or (pt_not (pt_val (pe_callB call_isinst rfl M.n_isinstance bt_isinstance (pa_cons (pv 0) (pa_cons (pe_ty M.n_tuple bt_tuple rfl) pa_nil))))) (pw_or1 (pt_cmpR (op_neIK (K := K) hu) (pv 0) (pv 1) (nomark _))))) (pss_one (ps_ret pe_bl)) pss_nil)
      (pss_cons (ps_for PassesOwn.never rfl (pi_tup (pv 0)) (pg_name (i := 2) sc_law_told.nd rfl (by first | exact Or.inl rfl | exact Or.inr rfl)) (pss_one (ps_if (L2.PW.pt (pw_or (pt_not (pt_val (pe_callB call_isinst rfl M.n_isinstance bt_isinstance (pa_cons (pv 2) (pa_cons (pe_ty M.n_int bt_int rfl) pa_nil))))) (pw_or1 (pt_val (pe_callB call_isinst rfl M.n_isinstance bt_isinstance (pa_cons (pv 2) (pa_cons (pe_ty M.n_bool bt_bool rfl) pa_nil))))))) (pss_one (ps_ret pe_bl)) pss_nil)))
      (pss_one (ps_ret pe_bl))))), ?_⟩
  try dsimp only [cxK, cxK2]
  refine let4 ?_
  intro _ _ _ _
  cases o with
  | none =>
    cases (show v = V.non from hv)
    cases (show u = V.non from hu')
    refine ⟨_, rfl, rfl, _, rfl, ite2 (fun _ => ?_) (fun c => absurd rfl c)⟩
    exact ⟨_, rfl, rfl, q H (Same.refl _)⟩
  | some pl =>
    have rv : Rep H (plD pl) v := hv
    obtain ⟨a, ws, rfl, ha, rw1⟩ := id rv
    obtain ⟨b, us, rfl, hb, rw2⟩ := (show Rep H (plD pl) u from hu')
    refine ⟨_, rfl, rfl, _, rfl, ite2 (fun c => absurd c (by simp)) (fun _ => ?_)⟩
    have lw := rw1.length
    rw [List.length_map] at lw
    have rw1' := rw1
    have ew := pl_reps rw1
    have eu := pl_reps rw2
    subst ew eu
    refine ⟨_, rfl, _, _, _, _, rfl, rv.ty, kit_tup _ (plD pl), _, rfl, iteF ?_⟩
    refine ⟨_, rfl, _, rfl, a, b, _, _, rfl, rfl, SqT.of ha, SqT.of hb, _, rfl, ite2 (fun c => absurd c (by simp)) (fun _ => ?_)⟩
    refine ⟨_, rfl, a, rfl, ⟨_, SqT.of ha⟩, ?_⟩
    let Ifr : Nat → L2.St → Hp → Prop := (fun m σ' H' => ∃ (nv : Option V), σ' = [some (.ref a), some (.ref b), nv] ∧ H' = H)
    refine for_by pl.length Ifr ?_ ?_ ?_
    · exact ⟨_, rfl, rfl⟩
    · rintro m σ' H3 hm ⟨nv, rfl, rfl⟩
      obtain ⟨i', hi'⟩ : ∃ i, pl[m]? = some i := ⟨_, List.getElem?_eq_getElem hm⟩
      obtain ⟨um, hum, rum⟩ := rw1'.get (i := m) (d := .int (i' : Nat)) (by rw [List.getElem?_map, hi']; rfl)
      refine ⟨⟨_, um, SqT.of ha, hum⟩, ?_⟩
      rintro x'' H4 ⟨rfl, hy⟩
      have hy := hy _ (SqT.of ha)
      rw [hum] at hy
      cases hy
      refine ⟨_, rfl, _, _, _, _, rfl, rum.ty, kit_int _ (.int (i' : Nat)), _, rfl, iteF ?_⟩
      exact ⟨_, rfl, _, _, _, _, rfl, rum.ty, kit_bl _ (.int (i' : Nat)), _, rfl, iteF ⟨_, rfl, rfl⟩⟩
    · rintro σ' H3 ⟨nv, rfl, rfl⟩
      refine ⟨⟨_, SqT.of ha, by simpa using lw⟩, ?_⟩
      exact q _ (Same.refl _)
end K30
end
section
set_option maxHeartbeats 4000000
namespace K30
open PySem L2 L3 KM PyProof.Rows
seal L2.PE L2.PS L2.PSs L2.PT L2.PW L2.PA L2.PG L2.PGs L2.PI L2.PC L2.PO L2.PPs L2.PK L3.PIf
variable {P : Program} {w : World} {K : PySem.W.Frag} {mg : Str → Option Value} {base : Heap} {t : Adr}
theorem vast_no {d : D} (h : vastD d = false) : knots d ≤ 600 ∧ depth d ≤ 40 := by
  unfold vastD at h
  simpa using h
def spChg (K : PySem.W.Frag) : Sp := fun vs H Q _ => ∃ (a p c : Addr) (ns : List Int) (i near : Int) (k : Bool) (d : D) (v : V), vs = [.ref a, .ref p, v, .int near, .ref c] ∧ Sg K a p c ns H i ∧ i < 2 ^ 50 ∧ 0 ≤ near ∧ near ≤ 90 ∧ Rep H d v ∧ wfG isStrD k d = true ∧ depth d ≤ 40 ∧ knots d ≤ 600 ∧
  ∀ (d' : D) (v' : V) (H' : Hp) (i' : Int), Ou K a p c ns H i k 40 600 (2 ^ 40) d' v' H' i' → Q v' H'
theorem sc_law_changed : FnScope ["_law_script", "_law_tape", "_law_thing_here", "_law_near", "_law_pool_here", "_law_rows_here", "_law_row", "_law_deep", "_law_new", "_law_made"] ["_law_script", "_law_tape", "_law_thing_here", "_law_near", "_law_pool_here"] (defScope s_law_changed) := ⟨rfl, rfl, rfl, by decide +kernel, rfl, by decide +kernel, by decide +kernel⟩
theorem c_law_changed (D : Df K mg "_law_changed" s_law_changed ["_law_script", "_law_tape", "_law_thing_here", "_law_near", "_law_pool_here"]) (M : Mg mg t) (F_law_draw : Cal P w K mg CX0 "_law_draw" (1) ["_law_script", "_law_tape", "_law_many"] (spDraw K)) (F_law_rows : Cal P w K mg CX0 "_law_rows" (2) ["_law_thing_here", "_law_book_here"] spRows) (F_law_kind : Cal P w K mg CX0 "_law_kind" (153) ["_law_script", "_law_tape", "_law_deep", "_law_near", "_law_pool_here"] (spGen K true 7)) (F_law_term : Cal P w K mg CX0 "_law_term" (153) ["_law_script", "_law_tape", "_law_deep", "_law_near", "_law_pool_here"] (spGen K false 7)) (F_law_with : Cal P w K mg CX0 "_law_with" (60) ["_law_thing_here", "_law_place", "_law_new"] (spWith 60)) (F_law_great : Cal P w K mg CX0 "_law_great" (192) ["_law_thing_here"] (spGreat 60)) : Cal P w K mg CX0 "_law_changed" (193) ["_law_script", "_law_tape", "_law_thing_here", "_law_near", "_law_pool_here"] (spChg K) := by
  refine D.ok sc_law_changed (fun vs H Q E h => ?_) (fun base f cdv A outer s H vs Q E hr h => ?_)
  · obtain ⟨a, p, c, ns, i, near, k, d, v, rfl, _⟩ := h
    rfl
  obtain ⟨a, p, c, ns, i, near, k, d, v, rfl, g, hi, n0, n1, r, wf, hd, hk, q⟩ := h
  have i0 := g.T.i0
  refine ⟨_, (pss_cons (ps_set (i := 5) sc_law_changed.nd rfl (by first | exact Or.inl rfl | exact Or.inr rfl) (pe_fn F_law_rows (hr.mono (by omega)) rfl pass0 (pa_cons (pv 2) (pa_cons pe_dnewK pa_nil))))
      (pss_cons (ps_set (i := 6) sc_law_changed.nd rfl (by first | exact Or.inl rfl | exact Or.inr rfl) (pe_ix ix_list (pv 5) (pe_op op_mod (pe_fn F_law_draw (hr.mono (by omega)) rfl pass0 (pa_cons (pv 0) (pa_cons (pv 1) (pa_cons (pe_op op_pow pe_int pe_int) pa_nil)))) (pe_callB call_len_seq rfl M.n_len bt_len (pa_cons (pv 5) pa_nil))) (fun _ _ => rfl)))
      (pss_cons (ps_set (i := 7) sc_law_changed.nd rfl (by first | exact Or.inl rfl | exact Or.inr rfl) (pe_fn F_law_draw (hr.mono (by omega)) rfl pass0 (pa_cons (pv 0) (pa_cons (pv 1) (pa_cons pe_int pa_nil)))))
      (pss_cut (ps_if (pt_cmpR op_in_seq (pe_ix ix_tup (pe_ix ix_tup (pv 6) pe_int (fun _ _ => rfl)) pe_int (fun _ _ => rfl)) (pe_tup (pa_cons pe_str (pa_cons pe_str (pa_cons pe_str (pa_cons pe_str (pa_cons pe_str pa_nil)))))) rfl) (pss_one (ps_set (i := 8) sc_law_changed.nd rfl (by first | exact Or.inl rfl | exact Or.inr rfl) (pe_fn F_law_kind (hr.mono (by omega)) rfl pass0 (pa_cons (pv 0) (pa_cons (pv 1) (pa_cons (pv 7) (pa_cons (pv 3) (pa_cons (pv 4) pa_nil)))))))) (pss_one (ps_if (L2.PW.pt (pw_and (pt_cmpR op_eq (pe_ix ix_tup (pe_ix ix_tup (pv 6) pe_int (fun _ _ => rfl)) pe_int (fun _ _ => rfl)) pe_str (nomark _)) (pw_and1 (pt_cmpR op_eq (pe_fn F_law_draw (hr.mono (by omega)) rfl pass0 (pa_cons (pv 0) (pa_cons (pv 1) (pa_cons pe_int pa_nil)))) pe_int (nomark _))))) (pss_one (ps_set (i := 8) sc_law_changed.nd rfl (by first | exact Or.inl rfl | exact Or.inr rfl) (pe_tup (pa_cons pe_str (pa_cons (pe_op op_mod (pe_op op_add (pe_ix ix_tup (pe_ix ix_tup (pv 6) pe_int (fun _ _ => rfl)) pe_int (fun _ _ => rfl)) pe_int) pe_int) pa_nil))))) (pss_one (ps_if (pt_cmpR op_eq (pe_ix ix_tup (pe_ix ix_tup (pv 6) pe_int (fun _ _ => rfl)) pe_int (fun _ _ => rfl)) pe_str (nomark _)) (pss_one (ps_set (i := 8) sc_law_changed.nd rfl (by first | exact Or.inl rfl | exact Or.inr rfl) (pe_tup (pa_cons pe_str (pa_cons (pe_ix ix_list (pv 4) (pe_fn F_law_draw (hr.mono (by omega)) rfl pass0 (pa_cons (pv 0) (pa_cons (pv 1) (pa_cons pe_int pa_nil)))) (fun _ _ => rfl)) pa_nil))))) (pss_one (ps_set (i := 8) sc_law_changed.nd rfl (by first | exact Or.inl rfl | exact Or.inr rfl) (pe_fn F_law_term (hr.mono (by omega)) rfl pass0 (pa_cons (pv 0) (pa_cons (pv 1) (pa_cons (pv 7) (pa_cons (pv 3) (pa_cons (pv 4) pa_nil)))))))))))))
      (pss_cons (ps_set (i := 9) sc_law_changed.nd rfl (by first | exact Or.inl rfl | exact Or.inr rfl) (pe_fn F_law_with (hr.mono (by omega)) rfl pass0 (pa_cons (pv 2) (pa_cons (pe_ix ix_tup (pv 6) pe_int (fun _ _ => rfl)) (pa_cons (pv 8) pa_nil)))))
      (pss_cons (ps_if (pt_val (pe_fn F_law_great (hr.mono (by omega)) rfl pass0 (pa_cons (pv 9) pa_nil))) (pss_one (ps_ret (pv 2))) pss_nil)
      (pss_one (ps_ret (pv 9))))))))), ?_⟩
  try dsimp only [cxK, cxK2]
  refine let4 ?_
  intro _ _ _ _
  refine ⟨_, rfl, fun b1 hb1 => ?_⟩
  have t1 := same_new hb1 (.dK [])
  refine ⟨d, v, b1, [], rfl, r.mono t1, ⟨k, wf⟩, (by omega), (by omega), upd_same, fun f1 fs1 H1 hf0 s1 hf1 rf1 => ?_⟩
  have s1 := t1.trans s1
  have l1 := rf1.length
  rw [List.length_map] at l1
  have m1 := rowsD_len [] d
  have m0 : 0 < (rowsD [] d).length := by
    obtain ⟨x, ps, rfl⟩ := wf_form wf
    rw [rowsD_eq]
    exact Nat.succ_pos _
  have g1 := g.mono s1
  have r1 := r.mono s1
  refine ⟨_, rfl, _, rfl, _, rfl, _, _, rfl, rfl, ⟨by decide, by decide, by decide⟩, a, p, ns, i, _, rfl, g1.T, (by omega), (by decide), fun z H2 z0 z1 x2 h2 => ?_⟩
  have nt := not_tup_list g1.T.tape
  have g2 := g1.next x2 h2 (by omega)
  have nf1 : f1 ≠ p := fun e => by rw [e, t1 _ _ g.T.tape] at hf0; cases hf0
  have hf1 := x2 _ _ nf1 hf1
  have rf1 := rf1.monoX x2 nt
  have r2 := r1.monoX x2 nt
  have x12 : SameX p H H2 := s1.x.trans x2
  have hfl : (0 : Int) < ((fs1.length : Nat) : Int) := by omega
  refine ⟨_, rfl, f1, _, rfl, .inl (SqL.of hf1), _, _, rfl, rfl, hfl, ?_⟩
  have y0 := Int.emod_nonneg z (b := ((fs1.length : Nat) : Int)) (by omega)
  have y1 := Int.emod_lt_of_pos z hfl
  obtain ⟨j, ej⟩ : ∃ j : Nat, z % ((fs1.length : Nat) : Int) = (j : Int) := ⟨(z % ((fs1.length : Nat) : Int)).toNat, by omega⟩
  have hj : j < fs1.length := by omega
  obtain ⟨a1, ha1⟩ : ∃ r, (rowsD [] d)[j]? = some r := ⟨_, List.getElem?_eq_getElem (by omega)⟩
  obtain ⟨u1, hu1, ru1⟩ := rf1.get (i := j) (d := rowD (inB []) a1) (by rw [List.getElem?_map, ha1]; rfl)
  refine ⟨f1, _, _, u1, rfl, rfl, SqL.of hf1, (by rw [ej]; exact atI_nat hu1), ?_⟩
  obtain ⟨yp, e1, hat⟩ := rows_at [] d a1 (List.mem_of_getElem? ha1)
  rw [List.nil_append] at e1
  obtain ⟨⟨k1, w1⟩, len1⟩ := at_wf _ _ _ ⟨k, wf⟩ hat
  obtain ⟨qa, _, rfl, hqa, ⟨v1, _, rfl, rp1, ⟨v2, v3s, rfl, rn1, _⟩⟩⟩ := id ru1
  rw [e1] at rp1
  obtain ⟨x, ps, ex⟩ := wf_form w1
  rw [ex] at rn1 w1
  obtain ⟨qn, us0, rfl, hqn, v0, us, rfl, ⟨rfl, hx⟩, rps⟩ := id rn1
  have g2i := g2.T.i0
  refine ⟨_, rfl, _, rfl, a, p, ns, i + 1, 3, rfl, g2.T, (by omega), (by decide), fun deep H3 dp0 dp1 x3 h3 => ?_⟩
  have nt2 := not_tup_list g2.T.tape
  have g3 := g2.next x3 h3 (by omega)
  have ru3 := ru1.monoX x3 nt2
  have rn3 := rn1.monoX x3 nt2
  have rp3 := rp1.monoX x3 nt2
  have r3 := r2.monoX x3 nt2
  have nqa : qa ≠ p := fun e => nt2 _ (by rw [← e]; exact hqa)
  have nqn : qn ≠ p := fun e => nt2 _ (by rw [← e]; exact hqn)
  have hqa3 := x3 _ _ nqa hqa
  have hqn3 := x3 _ _ nqn hqn
  have x13 := x12.trans x3
  let Mid : L2.St → Hp → Prop := fun σ' H' => ∃ (ne : KM.D) (nv : V) (i' : Int), σ' = [some (.ref a), some (.ref p), some v, some (.int near), some (.ref c), some (.ref f1), some (.ref qa), some (.int deep), some nv, none] ∧ Ou K a p c ns H i k1 16 300000 (2 ^ 39) ne nv H' i' ∧ H' qa = some (.tup (v1 :: V.ref qn :: v3s)) ∧ Rep H' (plD yp) v1
  have p57 : p5 7 = 78125 := by decide
  have c7 : cst 7 = 100000000 := by decide
  have fin : ∀ (ne : KM.D) (nv : V) (H' : Hp) (j j' : Int), Ou K a p c ns H3 j k1 16 300000 (10 + cst 7) ne nv H' j' → i ≤ j → j ≤ i + 10 → Mid [some (.ref a), some (.ref p), some v, some (.int near), some (.ref c), some (.ref f1), some (.ref qa), some (.int deep), some nv, none] H' := fun ne nv H' j j' o hj hj' =>
    ⟨ne, nv, j', rfl, (o.after x13 hj hj').weak (Nat.le_refl _) (Nat.le_refl _) (by rw [c7]; decide), o.sx _ _ nqa hqa3, rp3.monoX o.sx (not_tup_list g3.T.tape)⟩
  refine ⟨Mid, ?_, ?_⟩
  · refine ⟨_, rfl, qa, _, _, _, rfl, rfl, SqT.of hqa3, atI_nat (j := 1) rfl, qn, _, _, _, rfl, rfl, SqT.of hqn3, atI_nat (j := 0) rfl, (by show 5 ≤ sizeLine; decide), fun p1 hp1 => ⟨p1, (["nat", "none", "all", "some", "same"] : List Str).map V.str, rfl, .inr (SqT.of upd_same), rfl, rfl, _, rfl, ?_⟩⟩
    obtain ⟨_, _, hkw, _⟩ := wf_shape w1
    show if kindW x = true then _ else _
    rw [hkw]
    have s4 := same_new hp1 (.tup [V.str "nat", .str "none", .str "all", .str "some", .str "same"])
    generalize upd H3 p1 (.tup [V.str "nat", .str "none", .str "all", .str "some", .str "same"]) = H4 at s4 ⊢
    have g4 := g3.mono s4
    have hqa4 := s4 _ _ hqa3
    have hqn4 := s4 _ _ hqn3
    have g3i := g3.T.i0
    cases k1 with
    | true =>
      refine iteT ?_
      refine ⟨_, rfl, _, rfl, _, rfl, _, rfl, _, rfl, a, p, c, ns, i + 1 + 1, deep, near, rfl, g4, (by rw [c7]; omega), (by omega), (by omega), (by decide), n0, (by omega), fun ne nv H5 i5 o => ?_⟩
      exact fin ne nv H5 (i + 1 + 1) i5 ((o.after (i := i + 1 + 1) (co1 := 10) s4.x (by omega) (by omega)).weak (by decide) (by rw [p57]; decide) (Int.le_refl _)) (by omega) (by omega)
    | false =>
      refine iteF ?_
      have nt4 := not_tup_list g4.T.tape
      refine ⟨_, rfl, qa, _, _, _, rfl, rfl, SqT.of hqa4, atI_nat (j := 1) rfl, qn, _, _, _, rfl, rfl, SqT.of hqn4, atI_nat (j := 0) rfl, rfl, _, rfl, ?_⟩
      refine ite2 (fun cv => ?_) (fun cv => ?_)
      · have cv : V.str x = V.str "var" := of_decide_eq_true cv
        injection cv with cv
        subst cv
        refine ⟨_, rfl, _, rfl, a, p, ns, i + 1 + 1, 2, rfl, g4.T, (by omega), (by decide), fun z2 H5 _ _ x5 h5 => ⟨rfl, _, rfl, ?_⟩⟩
        have g5 := g4.next x5 h5 (by omega)
        have hqa5 := x5 _ _ nqa hqa4
        have hqn5 := x5 _ _ nqn hqn4
        have x35 : SameX p H3 H5 := s4.x.trans x5
        refine ite2 (fun _ => ?_) (fun _ => ?_)
        · obtain ⟨pi, rfl, hpi⟩ := leaf_one w1 (by decide +kernel)
          rcases hpi with ⟨_, iv, rfl, iv0, iv1⟩ | ⟨z', _⟩
          · obtain ⟨vi, _, rfl, rvi, rn⟩ := rps
            cases (show _ = [] from rn)
            cases (show vi = V.int iv from rvi)
            refine ⟨_, rfl, qa, _, _, _, rfl, rfl, SqT.of hqa5, atI_nat (j := 1) rfl, qn, _, _, _, rfl, rfl, SqT.of hqn5, atI_nat (j := 1) rfl, _, _, rfl, rfl, _, _, rfl, rfl, (by show (0 : Int) < 100; decide), (by show 2 ≤ sizeLine; decide), fun q1 hq1 => ?_⟩
            exact fin _ _ _ (i + 1 + 1) _ (made x35 g5 hq1 (rs rw_ (rs ri r0)) (wf_var (by omega) (by omega)) (by simp [depth, depthL]) (by simp [knots, knotsL]) (by omega) (by rw [c7]; omega)) (by omega) (by omega)
          · exact absurd z' (by decide +kernel)
        · refine ⟨_, rfl, qa, _, _, _, rfl, rfl, SqT.of hqa5, atI_nat (j := 1) rfl, qn, _, _, _, rfl, rfl, SqT.of hqn5, atI_nat (j := 0) rfl, rfl, _, rfl, ite2 (fun c => absurd c (by decide +kernel)) (fun _ => ?_)⟩
          refine ⟨_, rfl, _, rfl, _, rfl, _, rfl, _, rfl, a, p, c, ns, i + 1 + 1 + 1, deep, near, rfl, g5, (by rw [c7]; omega), (by omega), (by omega), (by decide), n0, (by omega), fun ne nv H6 i6 o => ?_⟩
          exact fin ne nv H6 (i + 1 + 1) i6 ((o.after (i := i + 1 + 1) (co1 := 10) x35 (by omega) (by omega)).weak (by decide) (by rw [p57]; decide) (Int.le_refl _)) (by omega) (by omega)
      · refine ⟨_, rfl, qa, _, _, _, rfl, rfl, SqT.of hqa4, atI_nat (j := 1) rfl, qn, _, _, _, rfl, rfl, SqT.of hqn4, atI_nat (j := 0) rfl, rfl, _, rfl, ite2 (fun _ => ?_) (fun _ => ?_)⟩
        · obtain ⟨xa, ya, za, l1', l2', l3', hc⟩ := g4.pl
          refine ⟨_, rfl, _, rfl, _, rfl, a, p, ns, i + 1 + 1, 3, rfl, g4.T, (by omega), (by decide), fun at_ H5 b0 b1' x5 h5 => ?_⟩
          have g5 := g4.next x5 h5 (by omega)
          have hc5 : H5 c = some (.lst [.str xa, .str ya, .str za]) := x5 _ _ (fun e => by subst e; rw [g4.T.tape] at hc; cases hc) hc
          obtain ⟨o, ho, hol⟩ : ∃ o : Str, atI [V.str xa, .str ya, .str za] at_ = some (.str o) ∧ o.length ≤ 101 := by
            have : at_ = 0 ∨ at_ = 1 ∨ at_ = 2 := by omega
            rcases this with rfl | rfl | rfl
            · exact ⟨xa, rfl, l1'⟩
            · exact ⟨ya, rfl, l2'⟩
            · exact ⟨za, rfl, l3'⟩
          refine ⟨c, _, _, _, rfl, rfl, SqL.of hc5, ho, (by show 2 ≤ sizeLine; decide), fun q1 hq1 => ?_⟩
          exact fin _ _ _ (i + 1 + 1) _ (made (s4.x.trans x5) g5 hq1 (rs rw_ (rs (rw_ (by omega)) r0)) (wf_name rfl) (by simp [depth, depthL]) (by simp [knots, knotsL]) (by omega) (by rw [c7]; omega)) (by omega) (by omega)
        · refine ⟨_, rfl, _, rfl, _, rfl, _, rfl, _, rfl, a, p, c, ns, i + 1 + 1, deep, near, rfl, g4, (by rw [c7]; omega), (by omega), (by omega), (by decide), n0, (by omega), fun ne nv H5 i5 o => ?_⟩
          exact fin ne nv H5 (i + 1 + 1) i5 ((o.after (i := i + 1 + 1) (co1 := 10) s4.x (by omega) (by omega)).weak (by decide) (by rw [p57]; decide) (Int.le_refl _)) (by omega) (by omega)
  · rintro σ' H4 ⟨ne, nv, i', rfl, o, hqa4, rp4⟩
    have r4 := r.monoX o.sx (not_tup_list g.T.tape)
    rw [← ex] at w1
    have wit := wit_wf w1 o.wf yp d k wf hat
    obtain ⟨ks, ds⟩ := wit_size (e := ne) yp d ⟨k, wf⟩ hat
    have odp := o.dp
    have okn := o.kn
    refine ⟨_, rfl, _, rfl, qa, _, _, _, rfl, rfl, SqT.of hqa4, atI_nat (j := 0) rfl, _, rfl, d, v, yp, v1, ne, nv, rfl, r4, ⟨k, wf⟩, rp4, o.r, (by omega), (by rw [hat]; rfl), fun u5 H5 s5 r5 => ?_⟩
    refine ⟨_, rfl, _, u5, rfl, r5, ⟨⟨k, wit⟩, by omega, by omega⟩, fun H6 s6 => ⟨_, rfl, ?_⟩⟩
    have s56 := s5.trans s6
    refine ite2 (fun _ => ?_) (fun cv => ?_)
    · exact ⟨_, rfl, q d v H6 i' ⟨r4.mono s56, wf, hd, hk, o.sx.trans s56.x, o.g.mono s56, o.lo, Int.le_trans o.hi (by omega)⟩⟩
    · obtain ⟨v1', v2'⟩ := vast_no (Bool.eq_false_iff.mpr cv)
      exact ⟨_, rfl, q _ u5 H6 i' ⟨r5.mono s6, wit, v2', v1', o.sx.trans s56.x, o.g.mono s56, o.lo, Int.le_trans o.hi (by omega)⟩⟩
end K30
end
section
set_option maxHeartbeats 4000000
namespace K30
open PySem L2 L3 KM PyProof.Rows
seal L2.PE L2.PS L2.PSs L2.PT L2.PW L2.PA L2.PG L2.PGs L2.PI L2.PC L2.PO L2.PPs L2.PK L3.PIf
variable {P : Program} {w : World} {K : PySem.W.Frag} {mg : Str → Option Value} {base : Heap} {t : Adr}
def spLaw (K : PySem.W.Frag) : Sp := fun vs H Q _ => ∃ (a : Addr) (ns : List Int), vs = [.ref a] ∧ SqL K H a (ns.map V.int) ∧ ns.length ≤ 63 ∧ ∀ H', Q (.bl true) H'
theorem tape_new {H : Hp} {a p : Addr} {ns : List Int} (hS : SqL K H a (ns.map V.int)) (hl : ns.length ≤ 63) (hp : H p = none) : Tp K a p ns (upd H p (.lst [V.int 0])) 0 := by
  refine ⟨?_, hl, upd_same, Int.le_refl _⟩
  rcases hS with (h | ⟨o, h⟩) | h
  · have n : a ≠ p := ne_of_none h hp
    exact .inl ⟨n, .inl (by rw [upd_ne n]; exact h)⟩
  · have n : a ≠ p := ne_of_none h hp
    exact .inl ⟨n, .inr ⟨o, by rw [upd_ne n]; exact h⟩⟩
  · exact .inr fun H' => .inr h
structure Tw (K : PySem.W.Frag) (a p c : Addr) (ns : List Int) (H : Hp) (i : Int) (k : Bool) (m l : Nat) (d e : D) (v u : V) : Prop where
  g : Sg K a p c ns H i
  r : Rep H d v
  r' : Rep H e u
  wf : wfG isStrD k d = true
  wf' : wfG isStrD k e = true
  dp : depth d ≤ m
  dp' : depth e ≤ m
  kn : knots d ≤ l
  kn' : knots e ≤ l
theorem Tw.mono {a p c : Addr} {ns : List Int} {H H' : Hp} {i : Int} {k : Bool} {dp kn : Nat} {d e : D} {v u : V} (T : Tw K a p c ns H i k dp kn d e v u) (s : Same H H') : Tw K a p c ns H' i k dp kn d e v u := ⟨T.g.mono s, T.r.mono s, T.r'.mono s, T.wf, T.wf', T.dp, T.dp', T.kn, T.kn'⟩
theorem Tw.next {a p c : Addr} {ns : List Int} {H H' : Hp} {i j : Int} {k : Bool} {dp kn : Nat} {d e : D} {v u : V} (T : Tw K a p c ns H i k dp kn d e v u) (x : SameX p H H') (h : H' p = some (.lst [.int j])) (hj : 0 ≤ j) : Tw K a p c ns H' j k dp kn d e v u :=
  ⟨T.g.next x h hj, T.r.monoX x (not_tup_list T.g.T.tape), T.r'.monoX x (not_tup_list T.g.T.tape), T.wf, T.wf', T.dp, T.dp', T.kn, T.kn'⟩
theorem sc_law : FnScope ["_law_script", "_law_tape", "_law_pool_here", "_law_near", "_law_sort", "_law_deep", "_law_one", "_law_other", "_law_way", "_law_k", "_law_side", "_law_many", "_law_due_here"] ["_law_script"] (defScope s_law) := ⟨rfl, rfl, rfl, by decide +kernel, rfl, by decide +kernel, by decide +kernel⟩
theorem c_law {f : Addr} {fd : FuncData} (F : Fun K "law" "law" s_law f fd) (M : Mg mg t) (F_law_draw : Cal P w K mg CX0 "_law_draw" (1) ["_law_script", "_law_tape", "_law_many"] (spDraw K)) (F_law_pool : Cal P w K mg CX0 "_law_pool" (2) ["_law_script", "_law_tape"] (spPool K)) (F_law_kind : Cal P w K mg CX0 "_law_kind" (153) ["_law_script", "_law_tape", "_law_deep", "_law_near", "_law_pool_here"] (spGen K true 7)) (F_law_term : Cal P w K mg CX0 "_law_term" (153) ["_law_script", "_law_tape", "_law_deep", "_law_near", "_law_pool_here"] (spGen K false 7)) (F_law_measured : Cal P w K mg CX0 "_law_measured" (191) ["_law_thing_here"] (spMeas 60)) (F_law_great : Cal P w K mg CX0 "_law_great" (192) ["_law_thing_here"] (spGreat 60)) (F_law_changed : Cal P w K mg CX0 "_law_changed" (193) ["_law_script", "_law_tape", "_law_thing_here", "_law_near", "_law_pool_here"] (spChg K)) (F_law_sized : Cal P w K mg CX0 "_law_sized" (10) ["_law_many"] (spSized 9)) (F_law_nexts : Cal P w K mg CX0 "_law_nexts" (1) ["_law_many", "_law_thing_here"] spNexts)
    (F_law_due : Cal P w K mg CX0 "_law_due" (133) ["_law_one", "_law_other"] spDue) (F_law_told : Cal P w K mg CX0 "_law_told" (1) ["_law_found", "_law_due_here"] spTold) (F_parting : Cal P w K mg CX0 "parting" (74) ["one", "other"] (spPart 71)) : FnOk P w K mg base CX0 194 f fd ["_law_script"] (spLaw K) := by
  refine F.ok sc_law (fun vs H Q E h => ?_) (fun cdv A outer s H vs Q E hr h => ?_)
  · obtain ⟨a, ns, rfl, _⟩ := h
    rfl
  obtain ⟨a, ns, rfl, hS, hlen, q⟩ := h
  refine ⟨_, (pss_cons (ps_set (i := 1) sc_law.nd rfl (by first | exact Or.inl rfl | exact Or.inr rfl) (pe_lst (pa_cons pe_int pa_nil)))
      (pss_cons (ps_set (i := 2) sc_law.nd rfl (by first | exact Or.inl rfl | exact Or.inr rfl) (pe_fn F_law_pool (hr.mono (by omega)) rfl pass0 (pa_cons (pv 0) (pa_cons (pv 1) pa_nil))))
      (pss_cons (ps_set (i := 3) sc_law.nd rfl (by first | exact Or.inl rfl | exact Or.inr rfl) (pe_ix ix_list (pe_lst (pa_cons pe_int (pa_cons pe_int (pa_cons pe_int pa_nil)))) (pe_fn F_law_draw (hr.mono (by omega)) rfl pass0 (pa_cons (pv 0) (pa_cons (pv 1) (pa_cons pe_int pa_nil)))) (fun _ _ => rfl)))
      (pss_cons (ps_set (i := 4) sc_law.nd rfl (by first | exact Or.inl rfl | exact Or.inr rfl) (pe_fn F_law_draw (hr.mono (by omega)) rfl pass0 (pa_cons (pv 0) (pa_cons (pv 1) (pa_cons pe_int pa_nil)))))
      (pss_cons (ps_set (i := 5) sc_law.nd rfl (by first | exact Or.inl rfl | exact Or.inr rfl) (pe_op op_add pe_int (pe_fn F_law_draw (hr.mono (by omega)) rfl pass0 (pa_cons (pv 0) (pa_cons (pv 1) (pa_cons pe_int pa_nil))))))
      (pss_cons (ps_set (i := 6) sc_law.nd rfl (by first | exact Or.inl rfl | exact Or.inr rfl) (pe_fn F_law_term (hr.mono (by omega)) rfl pass0 (pa_cons (pv 0) (pa_cons (pv 1) (pa_cons (pv 5) (pa_cons (pv 3) (pa_cons (pv 2) pa_nil)))))))
      (pss_cons (ps_set (i := 7) sc_law.nd rfl (by first | exact Or.inl rfl | exact Or.inr rfl) (pe_fn F_law_term (hr.mono (by omega)) rfl pass0 (pa_cons (pv 0) (pa_cons (pv 1) (pa_cons (pv 5) (pa_cons (pv 3) (pa_cons (pv 2) pa_nil)))))))
      (pss_cut (ps_if (pt_cmpR op_eq (pv 4) pe_int (nomark _)) (pss_cons (ps_set (i := 6) sc_law.nd rfl (by first | exact Or.inl rfl | exact Or.inr rfl) (pe_fn F_law_kind (hr.mono (by omega)) rfl pass0 (pa_cons (pv 0) (pa_cons (pv 1) (pa_cons (pv 5) (pa_cons (pv 3) (pa_cons (pv 2) pa_nil)))))))
      (pss_one (ps_set (i := 7) sc_law.nd rfl (by first | exact Or.inl rfl | exact Or.inr rfl) (pe_fn F_law_kind (hr.mono (by omega)) rfl pass0 (pa_cons (pv 0) (pa_cons (pv 1) (pa_cons (pv 5) (pa_cons (pv 3) (pa_cons (pv 2) pa_nil))))))))) pss_nil)
      (pss_cons (ps_if (L2.PW.pt (pw_or (pt_val (pe_fn F_law_great (hr.mono (by omega)) rfl pass0 (pa_cons (pv 6) pa_nil))) (pw_or1 (pt_val (pe_fn F_law_great (hr.mono (by omega)) rfl pass0 (pa_cons (pv 7) pa_nil)))))) (pss_one (ps_ret pe_bl)) pss_nil)
      (pss_cons (ps_set (i := 8) sc_law.nd rfl (by first | exact Or.inl rfl | exact Or.inr rfl) (pe_fn F_law_draw (hr.mono (by omega)) rfl pass0 (pa_cons (pv 0) (pa_cons (pv 1) (pa_cons pe_int pa_nil)))))
      (pss_cut (ps_if (pt_cmpR op_lt (pv 8) pe_int (nomark _)) (pss_one (ps_set (i := 7) sc_law.nd rfl (by first | exact Or.inl rfl | exact Or.inr rfl) (pv 6))) pss_nil)
      (pss_cut (ps_for PassesOwn.never rfl (pi_range1 rfl M.n_range (pa_cons (pe_ix ix_list (pe_lst (pa_cons pe_int (pa_cons pe_int (pa_cons pe_int (pa_cons pe_int (pa_cons pe_int pa_nil)))))) (pv 8) (fun _ _ => rfl)) pa_nil)) (pg_name (i := 9) sc_law.nd rfl (by first | exact Or.inl rfl | exact Or.inr rfl)) (pss_one (ps_set (i := 7) sc_law.nd rfl (by first | exact Or.inl rfl | exact Or.inr rfl) (pe_fn F_law_changed (hr.mono (by omega)) rfl pass0 (pa_cons (pv 0) (pa_cons (pv 1) (pa_cons (pv 7) (pa_cons (pv 3) (pa_cons (pv 2) pa_nil)))))))))
      (pss_cut (ps_if (L2.PW.pt (pw_and (pt_cmpR op_gt (pv 4) pe_int (nomark _)) (pw_and (pt_cmpR op_eq (pe_fn F_law_draw (hr.mono (by omega)) rfl pass0 (pa_cons (pv 0) (pa_cons (pv 1) (pa_cons pe_int pa_nil)))) pe_int (nomark _)) (pw_and1 (pt_cmpR op_lt (pe_op op_add (pe_ix ix_tup (pe_fn F_law_measured (hr.mono (by omega)) rfl pass0 (pa_cons (pv 6) pa_nil)) pe_int (fun _ _ => rfl)) (pe_ix ix_tup (pe_fn F_law_measured (hr.mono (by omega)) rfl pass0 (pa_cons (pv 7) pa_nil)) pe_int (fun _ _ => rfl))) pe_int (nomark _)))))) (pss_cons (ps_set (i := 10) sc_law.nd rfl (by first | exact Or.inl rfl | exact Or.inr rfl) (pe_fn F_law_sized (hr.mono (by omega)) rfl pass0 (pa_cons (pe_op op_add pe_int (pe_fn F_law_draw (hr.mono (by omega)) rfl pass0 (pa_cons (pv 0) (pa_cons (pv 1) (pa_cons pe_int pa_nil))))) pa_nil)))
      (pss_cons (ps_set (i := 11) sc_law.nd rfl (by first | exact Or.inl rfl | exact Or.inr rfl) (pe_fn F_law_draw (hr.mono (by omega)) rfl pass0 (pa_cons (pv 0) (pa_cons (pv 1) (pa_cons pe_int pa_nil)))))
      (pss_cons (ps_set (i := 6) sc_law.nd rfl (by first | exact Or.inl rfl | exact Or.inr rfl) (pe_fn F_law_nexts (hr.mono (by omega)) rfl pass0 (pa_cons (pv 11) (pa_cons (pe_tup (pa_cons pe_str (pa_cons (pv 10) (pa_cons (pv 6) pa_nil)))) pa_nil))))
      (pss_one (ps_set (i := 7) sc_law.nd rfl (by first | exact Or.inl rfl | exact Or.inr rfl) (pe_fn F_law_nexts (hr.mono (by omega)) rfl pass0 (pa_cons (pv 11) (pa_cons (pe_tup (pa_cons pe_str (pa_cons (pv 10) (pa_cons (pv 7) pa_nil)))) pa_nil)))))))) pss_nil)
      (pss_cons (ps_set (i := 12) sc_law.nd rfl (by first | exact Or.inl rfl | exact Or.inr rfl) (pe_fn F_law_due (hr.mono (by omega)) rfl pass0 (pa_cons (pv 6) (pa_cons (pv 7) pa_nil))))
      (pss_cons (ps_if (L2.PW.pt (pw_or (pt_not (pt_val (pe_fn F_law_told (hr.mono (by omega)) rfl pass0 (pa_cons (pe_fn F_parting (hr.mono (by omega)) rfl pass0 (pa_cons (pv 6) (pa_cons (pv 7) pa_nil))) (pa_cons (pv 12) pa_nil))))) (pw_or1 (pt_not (pt_val (pe_fn F_law_told (hr.mono (by omega)) rfl pass0 (pa_cons (pe_fn F_parting (hr.mono (by omega)) rfl pass0 (pa_cons (pv 7) (pa_cons (pv 6) pa_nil))) (pa_cons (pv 12) pa_nil)))))))) (pss_one (ps_ret pe_bl)) pss_nil)
      (pss_one (ps_ret (pe_and (pe_fn F_law_told (hr.mono (by omega)) rfl pass0 (pa_cons (pe_fn F_parting (hr.mono (by omega)) rfl pass0 (pa_cons (pv 6) (pa_cons (pv 6) pa_nil))) (pa_cons pe_non pa_nil))) (pe_one (pe_fn F_law_told (hr.mono (by omega)) rfl pass0 (pa_cons (pe_fn F_parting (hr.mono (by omega)) rfl pass0 (pa_cons (pv 6) (pa_cons (pv 7) pa_nil))) (pa_cons (pv 12) pa_nil)))))))))))))))))))))), ?_⟩
  try dsimp only [cxK, cxK2]
  refine let8 ?_
  intro _ _ _ _ _ _ _ _
  refine ⟨(by show 1 ≤ sizeLine; decide), fun p hp => ?_⟩
  have T0 := tape_new hS hlen hp
  generalize upd H p (.lst [V.int 0]) = H0 at T0 ⊢
  refine ⟨_, rfl, _, rfl, a, p, ns, 0, rfl, T0, (by decide), fun c x y z H1 l1 l2 l3 hc x1 h1 => ?_⟩
  have g1 : Sg K a p c ns H1 (0 + 4) := ⟨T0.next x1 h1 (by decide), x, y, z, l1, l2, l3, hc⟩
  refine ⟨(by show 3 ≤ sizeLine; decide), fun p2 e2 => ?_⟩
  have t2 := same_new e2 (.lst [V.int 0, .int 3, .int 90])
  have g2 := g1.mono t2
  refine ⟨_, rfl, _, rfl, a, p, ns, 0 + 4, 3, rfl, g2.T, (by decide), (by decide), fun wz H3 w0 w1 x3 h3 => ?_⟩
  have g3 := g2.next x3 h3 (by decide)
  have np2 : p2 ≠ p := fun z => by subst z; rw [g1.T.tape] at e2; cases e2
  have hp2 := x3 _ _ np2 (show (upd H1 p2 (.lst [V.int 0, .int 3, .int 90])) p2 = some _ from upd_same)
  obtain ⟨near, hnear, n0, n1⟩ : ∃ near : Int, atI [V.int 0, .int 3, .int 90] wz = some (.int near) ∧ 0 ≤ near ∧ near ≤ 90 := by
    have : wz = 0 ∨ wz = 1 ∨ wz = 2 := by omega
    rcases this with rfl | rfl | rfl
    · exact ⟨0, rfl, by decide, by decide⟩
    · exact ⟨3, rfl, by decide, by decide⟩
    · exact ⟨90, rfl, by decide, by decide⟩
  refine ⟨p2, _, _, _, rfl, rfl, SqL.of hp2, hnear, ?_⟩
  have c7 : cst 7 = 100000000 := by decide
  have p57 : p5 7 = 78125 := by decide
  refine ⟨_, rfl, _, rfl, a, p, ns, 0 + 4 + 1, 5, rfl, g3.T, (by decide), (by decide), fun sort H4 so0 so1 x4 h4 => ?_⟩
  have g4 := g3.next x4 h4 (by decide)
  refine ⟨_, rfl, _, rfl, a, p, ns, 0 + 4 + 1 + 1, 5, rfl, g4.T, (by decide), (by decide), fun dz H5 dz0 dz1 x5 h5 => ⟨_, _, rfl, rfl, ?_⟩⟩
  have g5 := g4.next x5 h5 (by decide)
  refine ⟨_, rfl, _, rfl, _, rfl, _, rfl, _, rfl, a, p, c, ns, 0 + 4 + 1 + 1 + 1, 1 + dz, near, rfl, g5, (by rw [c7]; decide), (by omega), (by omega), (by decide), n0, (by omega), fun d6 v6 H6 i6 o6 => ?_⟩
  have lo6 := o6.lo
  have hi6 := o6.hi
  rw [c7] at hi6
  refine ⟨_, rfl, _, rfl, _, rfl, _, rfl, _, rfl, a, p, c, ns, i6, 1 + dz, near, rfl, o6.g, (by rw [c7]; omega), (by omega), (by omega), (by decide), n0, (by omega), fun d7 v7 H7 i7 o7 => ?_⟩
  have lo7 := o7.lo
  have hi7 := o7.hi
  rw [c7] at hi7
  let Mid1 : L2.St → Hp → Prop := fun σ' H' => ∃ (k : Bool) (d e : KM.D) (v u : V) (i : Int), σ' = [some (.ref a), some (.ref p), some (.ref c), some (.int near), some (.int sort), some (.int (1 + dz)), some v, some u, none, none, none, none, none] ∧ (0 < sort → k = false) ∧ Tw K a p c ns H' i k 16 300000 d e v u ∧ i ≤ 2 ^ 40
  refine ⟨Mid1, ?_, ?_⟩
  · refine ⟨_, rfl, rfl, _, rfl, ite2 (fun cs => ?_) (fun cs => ?_)⟩
    · have cs : V.int sort = V.int 0 := of_decide_eq_true cs
      injection cs with cs
      refine ⟨_, rfl, _, rfl, _, rfl, _, rfl, _, rfl, a, p, c, ns, i7, 1 + dz, near, rfl, o7.g, (by rw [c7]; omega), (by omega), (by omega), (by decide), n0, (by omega), fun d8 v8 H8 i8 o8 => ?_⟩
      have lo8 := o8.lo
      have hi8 := o8.hi
      rw [c7] at hi8
      refine ⟨_, rfl, _, rfl, _, rfl, _, rfl, _, rfl, a, p, c, ns, i8, 1 + dz, near, rfl, o8.g, (by rw [c7]; omega), (by omega), (by omega), (by decide), n0, (by omega), fun d9 v9 H9 i9 o9 => ?_⟩
      have hi9 := o9.hi
      rw [c7] at hi9
      exact ⟨true, d8, d9, v8, v9, i9, rfl, fun z => by omega, ⟨o9.g, o8.r.monoX o9.sx (not_tup_list o8.g.T.tape), o9.r, o8.wf, o9.wf, o8.dp, o9.dp, Nat.le_trans o8.kn (by rw [p57]; decide), Nat.le_trans o9.kn (by rw [p57]; decide)⟩, by omega⟩
    · exact ⟨false, d6, d7, v6, v7, i7, rfl, fun _ => rfl, ⟨o7.g, o6.r.monoX o7.sx (not_tup_list o6.g.T.tape), o7.r, o6.wf, o7.wf, o6.dp, o7.dp, Nat.le_trans o6.kn (by rw [p57]; decide), Nat.le_trans o7.kn (by rw [p57]; decide)⟩, by omega⟩
  rintro σ' H8 ⟨k, d, e, v, u, i8, rfl, hk, T8, hi8⟩
  clear o6 o7 g1 g2 g3 g4 g5 hp2 x3 x4 x5
  have dp8 := T8.dp
  have dp8' := T8.dp'
  have kn8 := T8.kn
  have kn8' := T8.kn'
  refine ⟨_, rfl, d, v, rfl, T8.r, ⟨⟨k, T8.wf⟩, by omega, by omega⟩, fun H9 s9 => ⟨_, rfl, ite2 (fun _ => iteT (q _)) (fun cv1 => ?_)⟩⟩
  have T9 := T8.mono s9
  refine ⟨_, rfl, e, u, rfl, T9.r', ⟨⟨k, T8.wf'⟩, by omega, by omega⟩, fun H10 s10 => ⟨_, rfl, ite2 (fun _ => (q _)) (fun cv2 => ?_)⟩⟩
  have T10 := T9.mono s10
  obtain ⟨q1, q2⟩ := vast_no (Bool.eq_false_iff.mpr cv1)
  obtain ⟨q3, q4⟩ := vast_no (Bool.eq_false_iff.mpr cv2)
  have i80 := T8.g.T.i0
  refine ⟨_, rfl, _, rfl, a, p, ns, i8, 5, rfl, T10.g.T, (by omega), (by decide), fun way H11 wy0 wy1 x11 h11 => ?_⟩
  have T11 := T10.next x11 h11 (by omega)
  clear T8 T9 T10 dp8 dp8' kn8 kn8' x11 h11 s9 s10
  let Mid2 : L2.St → Hp → Prop := fun σ' H' => ∃ (e : KM.D) (u : V), σ' = [some (.ref a), some (.ref p), some (.ref c), some (.int near), some (.int sort), some (.int (1 + dz)), some v, some u, some (.int way), none, none, none, none] ∧ Tw K a p c ns H' (i8 + 1) k 40 600 d e v u
  refine ⟨Mid2, ?_, ?_⟩
  · refine ⟨_, rfl, _, _, rfl, rfl, _, rfl, ite2 (fun _ => ?_) (fun _ => ?_)⟩
    · exact ⟨_, rfl, d, v, rfl, ⟨T11.g, T11.r, T11.r, T11.wf, T11.wf, q2, q2, q1, q1⟩⟩
    · exact ⟨e, u, rfl, ⟨T11.g, T11.r, T11.r', T11.wf, T11.wf', q2, q4, q1, q3⟩⟩
  rintro σ' H12 ⟨e, u, rfl, T12⟩
  clear T11 q3 q4 cv2
  let Mid3 : L2.St → Hp → Prop := fun σ' H' => ∃ (e : KM.D) (u : V) (i : Int) (kv : Option V), σ' = [some (.ref a), some (.ref p), some (.ref c), some (.int near), some (.int sort), some (.int (1 + dz)), some v, some u, some (.int way), kv, none, none, none] ∧ Tw K a p c ns H' i k 40 600 d e v u ∧ i ≤ 2 ^ 44
  refine ⟨Mid3, ?_, ?_⟩
  · refine ⟨(by show 5 ≤ sizeLine; decide), fun p3 e3 => ?_⟩
    have t3 := same_new e3 (.lst [V.int 0, .int 1, .int 1, .int 2, .int 0])
    obtain ⟨m, hm, m2⟩ : ∃ m : Nat, atI [V.int 0, .int 1, .int 1, .int 2, .int 0] way = some (.int (m : Nat)) ∧ m ≤ 2 := by
      have : way = 0 ∨ way = 1 ∨ way = 2 ∨ way = 3 ∨ way = 4 := by omega
      rcases this with rfl | rfl | rfl | rfl | rfl
      · exact ⟨0, rfl, by decide⟩
      · exact ⟨1, rfl, by decide⟩
      · exact ⟨1, rfl, by decide⟩
      · exact ⟨2, rfl, by decide⟩
      · exact ⟨0, rfl, by decide⟩
    refine ⟨_, rfl, p3, _, _, _, rfl, rfl, SqL.of upd_same, hm, _, rfl, (by omega), (by omega), ?_⟩
    rw [Int.toNat_natCast]
    let Ifr : Nat → L2.St → Hp → Prop := (fun j σ' H' => ∃ (e : KM.D) (u : V) (i : Int) (kv : Option V), σ' = [some (.ref a), some (.ref p), some (.ref c), some (.int near), some (.int sort), some (.int (1 + dz)), some v, some u, some (.int way), kv, none, none, none] ∧ Tw K a p c ns H' i k 40 600 d e v u ∧ i ≤ 2 ^ 42 + 2 ^ 40 * (j : Int))
    refine for_by m Ifr ?_ ?_ ?_
    · exact ⟨e, u, _, none, rfl, T12.mono t3, by omega⟩
    · rintro j σ' H13 hj ⟨e, u, i13, kv, rfl, T13, hi13⟩
      refine ⟨hj, ?_⟩
      rintro x' H14 ⟨rfl, rfl⟩
      refine ⟨_, rfl, _, rfl, _, rfl, _, rfl, _, rfl, a, p, c, ns, i13, near, k, e, u, rfl, T13.g, (by omega), n0, n1, T13.r', T13.wf', T13.dp', T13.kn', fun e' u' H15 i15 o => ?_⟩
      have ohi := o.hi
      exact ⟨e', u', i15, _, rfl, ⟨o.g, T13.r.monoX o.sx (not_tup_list T13.g.T.tape), o.r, T13.wf, o.wf, T13.dp, o.dp, T13.kn, o.kn⟩, by omega⟩
    · rintro σ' H13 ⟨e, u, i13, kv, rfl, T13, hi13⟩
      exact ⟨Nat.le_refl _, e, u, i13, kv, rfl, T13, by omega⟩
  rintro σ' H13 ⟨e, u, i13, kv, rfl, T13, hi13⟩
  clear T12
  have j0 := T13.g.T.i0
  have dpd := T13.dp
  have dpe := T13.dp'
  have knd := T13.kn
  have kne := T13.kn'
  let Mid4 : L2.St → Hp → Prop := fun σ' H' => ∃ (d e : KM.D) (v u : V) (sv mv : Option V), σ' = [some (.ref a), some (.ref p), some (.ref c), some (.int near), some (.int sort), some (.int (1 + dz)), some v, some u, some (.int way), kv, sv, mv, none] ∧ Rep H' d v ∧ Rep H' e u ∧ wfG isStrD k d = true ∧ wfG isStrD k e = true ∧ depth d ≤ 70 ∧ depth e ≤ 70 ∧ knots d ≤ 1000000 ∧ knots e ≤ 1000000
  refine ⟨Mid4, ?_, ?_⟩
  · have stay : ∀ H', Same H13 H' → Mid4 [some (.ref a), some (.ref p), some (.ref c), some (.int near), some (.int sort), some (.int (1 + dz)), some v, some u, some (.int way), kv, none, none, none] H' := fun H' s' =>
      ⟨d, e, v, u, none, none, rfl, T13.r.mono s', T13.r'.mono s', T13.wf, T13.wf', by omega, by omega, by omega, by omega⟩
    refine ⟨_, rfl, _, _, rfl, rfl, _, rfl, ite2 (fun cs => ?_) (fun _ => iteF (stay _ (Same.refl _)))⟩
    have hkf := hk (of_decide_eq_true cs)
    subst hkf
    refine ⟨_, rfl, _, rfl, a, p, ns, i13, 6, rfl, T13.g.T, (by omega), (by decide), fun z6 H14 _ _ x14 h14 => ⟨rfl, _, rfl, ?_⟩⟩
    have T14 := T13.next x14 h14 (by omega)
    have stay : ∀ H', Same H14 H' → Mid4 [some (.ref a), some (.ref p), some (.ref c), some (.int near), some (.int sort), some (.int (1 + dz)), some v, some u, some (.int way), kv, none, none, none] H' := fun H' s' =>
      ⟨d, e, v, u, none, none, rfl, T14.r.mono s', T14.r'.mono s', T14.wf, T14.wf', by omega, by omega, by omega, by omega⟩
    refine ite2 (fun _ => ?_) (fun _ => iteF (stay _ (Same.refl _)))
    refine ⟨_, rfl, d, v, rfl, T14.r, ⟨⟨false, T14.wf⟩, by omega, by omega⟩, fun q5 c5 H15 s15 _ _ h15 => ?_⟩
    refine ⟨q5, _, _, _, rfl, rfl, SqT.of h15, atI_nat (j := 0) rfl, _, rfl, e, u, rfl, (T14.mono s15).r', ⟨⟨false, T14.wf'⟩, by omega, by omega⟩, fun q6 c6 H16 s16 _ _ h16 => ?_⟩
    have T16 := T14.mono (s15.trans s16)
    refine ⟨q6, _, _, _, rfl, rfl, SqT.of h16, atI_nat (j := 0) rfl, _, _, rfl, rfl, _, _, rfl, rfl, _, rfl, ite2 (fun _ => ?_) (fun _ => stay _ (s15.trans s16))⟩
    refine ⟨_, rfl, _, rfl, a, p, ns, i13 + 1, 300, rfl, T16.g.T, (by omega), (by decide), fun ms H17 ms0 ms1 x17 h17 => ⟨_, _, rfl, rfl, ?_⟩⟩
    have T17 := T16.next x17 h17 (by omega)
    refine ⟨1 + ms, rfl, (by omega), (by omega), fun dS vS H18 s18 rS wS aS bS => ?_⟩
    have T18 := T17.mono s18
    refine ⟨_, rfl, _, rfl, a, p, ns, i13 + 1 + 1, 25, rfl, T18.g.T, (by omega), (by decide), fun mz H19 mz0 mz1 x19 h19 => ?_⟩
    have T19 := T18.next x19 h19 (by omega)
    have rS := rS.monoX x19 (not_tup_list T18.g.T.tape)
    obtain ⟨mm, rfl⟩ : ∃ mm : Nat, mz = (mm : Int) := ⟨mz.toNat, by omega⟩
    have bS' : knots dS ≤ 300 := by omega
    refine ⟨_, rfl, _, rfl, _, rfl, (by show 3 ≤ sizeLine; decide), fun q7 e7 => ?_⟩
    have t7 := same_new e7 (.tup [V.str "app", vS, v])
    refine ⟨mm, .tup [.str "app", dS, d], _, rfl, (by omega), rep_new e7 (rs rw_ (rs rS (rs T19.r r0))), fun v20 H20 s20 r20 => ?_⟩
    have s20 := t7.trans s20
    refine ⟨_, rfl, _, rfl, _, rfl, (by show 3 ≤ sizeLine; decide), fun q8 e8 => ?_⟩
    have t8 := same_new e8 (.tup [V.str "app", vS, u])
    refine ⟨mm, .tup [.str "app", dS, e], _, rfl, (by omega), rep_new e8 (rs rw_ (rs (rS.mono s20) (rs (T19.r'.mono s20) r0))), fun v21 H21 s21 r21 => ?_⟩
    have s21 := t8.trans s21
    obtain ⟨w20, d20, k20⟩ := nx_facts mm _ (wf_app wS T13.wf)
    obtain ⟨w21, d21, k21⟩ := nx_facts mm _ (wf_app wS T13.wf')
    refine ⟨_, _, v20, v21, _, _, rfl, r20.mono s21, r21, w20, w21, ?_, ?_, ?_, ?_⟩
    · rw [d20]; simp only [depth, depthL]; omega
    · rw [d21]; simp only [depth, depthL]; omega
    · rw [k20]; simp only [knots, knotsL]; omega
    · rw [k21]; simp only [knots, knotsL]; omega
  rintro σ' H14 ⟨d, e, v, u, sv, mv, rfl, r, r', wf, wf', hd, he, kd, ke⟩
  clear T13 dpd dpe knd kne
  refine ⟨_, rfl, _, rfl, d, e, v, u, rfl, r, r', ⟨k, wf⟩, ⟨k, wf'⟩, hd, he, kd, ke, fun du H15 s15 hdu => ?_⟩
  have r := r.mono s15
  have r' := r'.mono s15
  refine ⟨_, rfl, _, rfl, d, e, v, u, rfl, r, r', ⟨k, wf⟩, ⟨k, wf'⟩, (by omega), (by omega), (by decide), fun f1 H16 s16 hf1 => ?_⟩
  refine ⟨_, rfl, prtD d e, f1, du, rfl, hf1, hdu.mono s16, fun H17 s17 => ⟨true, rfl, iteF ?_⟩⟩
  have s17 := s16.trans s17
  refine ⟨_, rfl, _, rfl, e, d, u, v, rfl, r'.mono s17, r.mono s17, ⟨k, wf'⟩, ⟨k, wf⟩, (by omega), (by omega), (by decide), fun f2 H18 s18 hf2 => ?_⟩
  rw [prt_sym] at hf2
  have s18' := s17.trans s18
  refine ⟨_, rfl, prtD d e, f2, du, rfl, hf2, hdu.mono s18', fun H19 s19 => ⟨true, rfl, iteF ?_⟩⟩
  have s19 := s18'.trans s19
  refine ⟨_, rfl, _, rfl, d, d, v, v, rfl, r.mono s19, r.mono s19, ⟨k, wf⟩, ⟨k, wf⟩, (by omega), (by omega), (by decide), fun f3 H20 s20 hf3 => ?_⟩
  rw [prt_same 71 d k (by omega) wf] at hf3
  refine ⟨none, f3, .non, rfl, hf3, rfl, fun H21 s21 => ⟨true, rfl, iteT ?_⟩⟩
  have s21 := s19.trans (s20.trans s21)
  refine ⟨_, rfl, _, rfl, d, e, v, u, rfl, r.mono s21, r'.mono s21, ⟨k, wf⟩, ⟨k, wf'⟩, (by omega), (by omega), (by decide), fun f4 H22 s22 hf4 => ?_⟩
  exact ⟨_, rfl, prtD d e, f4, du, rfl, hf4, hdu.mono (s21.trans s22), fun H23 _ => q _⟩
end K30
end
section
set_option maxHeartbeats 4000000
namespace K30
open PySem L2 L3 KM
structure Txt (K : PySem.W.Frag) (mg : Str → Option Value) (t : Adr) : Prop where
  M : Mg mg t
  D_kids_of : Df K mg "kids_of" s_kids_of ["thing"]
  D_is_unlike : Df K mg "is_unlike" s_is_unlike ["one", "other"]
  D_parting : Df K mg "parting" s_parting ["one", "other"]
  D_law_draw : Df K mg "_law_draw" s_law_draw ["_law_script", "_law_tape", "_law_many"]
  D_law_named : Df K mg "_law_named" s_law_named ["_law_word"]
  D_law_pool : Df K mg "_law_pool" s_law_pool ["_law_script", "_law_tape"]
  D_law_leaf : Df K mg "_law_leaf" s_law_leaf ["_law_script", "_law_tape", "_law_near", "_law_pool_here"]
  D_law_kind : Df K mg "_law_kind" s_law_kind ["_law_script", "_law_tape", "_law_deep", "_law_near", "_law_pool_here"]
  D_law_fun : Df K mg "_law_fun" s_law_fun ["_law_script", "_law_tape", "_law_deep", "_law_near", "_law_pool_here"]
  D_law_pair : Df K mg "_law_pair" s_law_pair ["_law_script", "_law_tape", "_law_deep", "_law_near", "_law_pool_here"]
  D_law_like : Df K mg "_law_like" s_law_like ["_law_script", "_law_tape", "_law_deep", "_law_near", "_law_pool_here"]
  D_law_number : Df K mg "_law_number" s_law_number ["_law_script", "_law_tape", "_law_deep", "_law_near", "_law_pool_here"]
  D_law_parted : Df K mg "_law_parted" s_law_parted ["_law_script", "_law_tape", "_law_deep", "_law_near", "_law_pool_here", "_law_way"]
  D_law_still : Df K mg "_law_still" s_law_still ["_law_script", "_law_tape", "_law_deep", "_law_near", "_law_pool_here", "_law_way"]
  D_law_term : Df K mg "_law_term" s_law_term ["_law_script", "_law_tape", "_law_deep", "_law_near", "_law_pool_here"]
  D_law_kids : Df K mg "_law_kids" s_law_kids ["_law_thing_here"]
  D_law_measured : Df K mg "_law_measured" s_law_measured ["_law_thing_here"]
  D_law_great : Df K mg "_law_great" s_law_great ["_law_thing_here"]
  D_law_rule : Df K mg "_law_rule" s_law_rule ["_law_thing_here", "_law_book_here"]
  D_law_rows : Df K mg "_law_rows" s_law_rows ["_law_thing_here", "_law_book_here"]
  D_law_with : Df K mg "_law_with" s_law_with ["_law_thing_here", "_law_place", "_law_new"]
  D_law_unlike : Df K mg "_law_unlike" s_law_unlike ["_law_here", "_law_there"]
  D_law_due : Df K mg "_law_due" s_law_due ["_law_one", "_law_other"]
  D_law_changed : Df K mg "_law_changed" s_law_changed ["_law_script", "_law_tape", "_law_thing_here", "_law_near", "_law_pool_here"]
  D_law_sized : Df K mg "_law_sized" s_law_sized ["_law_many"]
  D_law_nexts : Df K mg "_law_nexts" s_law_nexts ["_law_many", "_law_thing_here"]
  D_law_told : Df K mg "_law_told" s_law_told ["_law_found", "_law_due_here"]
  D_law : Df K mg "law" s_law ["_law_script"]
theorem txt_mk {K : PySem.W.Frag} {h : Heap} {mg : Str → Option Value} (X : K.In h) (G : h.Ns mainGlobals mg)

    (a0 : DfIn K "kids_of" s_kids_of)
    (a1 : DfIn K "is_unlike" s_is_unlike)
    (a2 : DfIn K "parting" s_parting)
    (a3 : DfIn K "_law_draw" s_law_draw)
    (a4 : DfIn K "_law_named" s_law_named)
    (a5 : DfIn K "_law_pool" s_law_pool)
    (a6 : DfIn K "_law_leaf" s_law_leaf)
    (a7 : DfIn K "_law_kind" s_law_kind)
    (a8 : DfIn K "_law_fun" s_law_fun)
    (a9 : DfIn K "_law_pair" s_law_pair)
    (a10 : DfIn K "_law_like" s_law_like)
    (a11 : DfIn K "_law_number" s_law_number)
    (a12 : DfIn K "_law_parted" s_law_parted)
    (a13 : DfIn K "_law_still" s_law_still)
    (a14 : DfIn K "_law_term" s_law_term)
    (a15 : DfIn K "_law_kids" s_law_kids)
    (a16 : DfIn K "_law_measured" s_law_measured)
    (a17 : DfIn K "_law_great" s_law_great)
    (a18 : DfIn K "_law_rule" s_law_rule)
    (a19 : DfIn K "_law_rows" s_law_rows)
    (a20 : DfIn K "_law_with" s_law_with)
    (a21 : DfIn K "_law_unlike" s_law_unlike)
    (a22 : DfIn K "_law_due" s_law_due)
    (a23 : DfIn K "_law_changed" s_law_changed)
    (a24 : DfIn K "_law_sized" s_law_sized)
    (a25 : DfIn K "_law_nexts" s_law_nexts)
    (a26 : DfIn K "_law_told" s_law_told)
    (a27 : DfIn K "law" s_law)
    (z_bool : PySem.W.nsIn K mainGlobals "bool" = some none)
    (z_enumerate : PySem.W.nsIn K mainGlobals "enumerate" = some none)
    (z_int : PySem.W.nsIn K mainGlobals "int" = some none)
    (z_isinstance : PySem.W.nsIn K mainGlobals "isinstance" = some none)
    (z_len : PySem.W.nsIn K mainGlobals "len" = some none)
    (z_list : PySem.W.nsIn K mainGlobals "list" = some none)
    (z_max : PySem.W.nsIn K mainGlobals "max" = some none)
    (z_min : PySem.W.nsIn K mainGlobals "min" = some none)
    (z_range : PySem.W.nsIn K mainGlobals "range" = some none)
    (z_tuple : PySem.W.nsIn K mainGlobals "tuple" = some none)
    (z_zip : PySem.W.nsIn K mainGlobals "zip" = some none) : ∃ t, Txt K mg t :=
  ⟨⟨()⟩, ⟨⟨PySem.W.mg_none_of X G z_bool, PySem.W.mg_none_of X G z_enumerate, PySem.W.mg_none_of X G z_int, PySem.W.mg_none_of X G z_isinstance, PySem.W.mg_none_of X G z_len, PySem.W.mg_none_of X G z_list, PySem.W.mg_none_of X G z_max, PySem.W.mg_none_of X G z_min, PySem.W.mg_none_of X G z_range, PySem.W.mg_none_of X G z_tuple, PySem.W.mg_none_of X G z_zip⟩, a0.df X G fun _ _ _ _ _ _ => by1 (fun _ => rfl), a1.df X G fun _ _ _ _ _ _ => by2 (fun _ _ => rfl), a2.df X G fun _ _ _ _ _ _ => by2 (fun _ _ => rfl), a3.df X G fun _ _ _ _ _ _ => by3 (fun _ _ _ => rfl), a4.df X G fun _ _ _ _ _ _ => by1 (fun _ => rfl), a5.df X G fun _ _ _ _ _ _ => by2 (fun _ _ => rfl), a6.df X G fun _ _ _ _ _ _ => by4 (fun _ _ _ _ => rfl), a7.df X G fun _ _ _ _ _ _ => by5 (fun _ _ _ _ _ => rfl), a8.df X G fun _ _ _ _ _ _ => by5 (fun _ _ _ _ _ => rfl), a9.df X G fun _ _ _ _ _ _ => by5 (fun _ _ _ _ _ => rfl), a10.df X G fun _ _ _ _ _ _ => by5 (fun _ _ _ _ _ => rfl), a11.df X G fun _ _ _ _ _ _ => by5 (fun _ _ _ _ _ => rfl), a12.df X G fun _ _ _ _ _ _ => by6 (fun _ _ _ _ _ _ => rfl), a13.df X G fun _ _ _ _ _ _ => by6 (fun _ _ _ _ _ _ => rfl), a14.df X G fun _ _ _ _ _ _ => by5 (fun _ _ _ _ _ => rfl), a15.df X G fun _ _ _ _ _ _ => by1 (fun _ => rfl), a16.df X G fun _ _ _ _ _ _ => by1 (fun _ => rfl), a17.df X G fun _ _ _ _ _ _ => by1 (fun _ => rfl), a18.df X G fun _ _ _ _ _ _ => by2 (fun _ _ => rfl), a19.df X G fun _ _ _ _ _ _ => by2 (fun _ _ => rfl), a20.df X G fun _ _ _ _ _ _ => by3 (fun _ _ _ => rfl), a21.df X G fun _ _ _ _ _ _ => by2 (fun _ _ => rfl), a22.df X G fun _ _ _ _ _ _ => by2 (fun _ _ => rfl), a23.df X G fun _ _ _ _ _ _ => by5 (fun _ _ _ _ _ => rfl), a24.df X G fun _ _ _ _ _ _ => by1 (fun _ => rfl), a25.df X G fun _ _ _ _ _ _ => by2 (fun _ _ => rfl), a26.df X G fun _ _ _ _ _ _ => by2 (fun _ _ => rfl), a27.df X G fun _ _ _ _ _ _ => by1 (fun _ => rfl)⟩⟩
theorem fin {l : PySem.W.OpenLaw} {w : World} {K : PySem.W.Frag} {mg : Str → Option Value} {t : Adr} {fa : Addr} (T : Txt K mg t) (hfa : mg "law" = some (.ref fa)) :
    ∃ fd : FuncData, (∀ (s : Shared) (v : Value), BindsTo s fd ⟨[v], []⟩ [("_law_script", v)]) ∧ ∀ base : Heap, K.In base → base.Ns mainGlobals mg → FnOk l.prog w K mg base CX0 194 fa fd ["_law_script"] (spLaw K) := by
  obtain ⟨f, fd, F, m, b⟩ := T.D_law
  have e := hfa.symm.trans m
  cases e
  refine ⟨fd, ?_, fun base _ _ => ?_⟩
  · obtain ⟨oc, od, kV, doc, pm, an, cdv, ct, osl, rfl, lk, hcd⟩ := F.ex
    exact fun s v => .of_eq rfl
  have c1 := c_law_draw (P := l.prog) (w := w) T.D_law_draw T.M
  have c2 := c_law_named (P := l.prog) (w := w) T.D_law_named T.M
  have c3 := c_law_pool T.D_law_pool T.M c1 c2
  have c4 := c_law_leaf T.D_law_leaf T.M c1
  obtain ⟨ck, ct⟩ := c_gen T.D_law_kind T.D_law_term T.D_law_fun T.D_law_pair T.D_law_like T.D_law_number T.D_law_parted T.D_law_still T.M c1 c4 7
  have k1 := c_law_kids (P := l.prog) (w := w) T.D_law_kids T.M
  have k2 := c_law_measured T.D_law_measured T.M k1 60
  have k3 := c_law_great T.D_law_great T.M k2
  have k6 := c_law_rule (P := l.prog) (w := w) T.D_law_rule T.M
  have k7 := c_law_rows T.D_law_rows T.M k6 k1
  have k8 := c_law_with (P := l.prog) (w := w) T.D_law_with T.M 60
  have k9 := c_law_changed T.D_law_changed T.M c1 k7 ck ct k8 k3
  have u1 := c_law_unlike (P := l.prog) (w := w) T.D_law_unlike T.M
  have u2 := c_law_due T.D_law_due T.M k7 u1
  have u3 := c_law_nexts (P := l.prog) (w := w) T.D_law_nexts T.M
  have u4 := c_law_told (P := l.prog) (w := w) T.D_law_told T.M
  have z1 := c_law_sized (P := l.prog) (w := w) T.D_law_sized T.M 9
  have p1 := c_is_unlike (P := l.prog) (w := w) T.D_is_unlike T.M
  have p2 := c_kids_of (P := l.prog) (w := w) T.D_kids_of T.M
  have p3 := c_parting T.D_parting T.M p1 p2 71
  exact c_law F T.M c1 c3 ck ct k2 k3 k9 z1 u3 u2 u4 p3
theorem walk {l : PySem.W.OpenLaw} {q : Program} {loose : List Str} {XP : (Str → Option Value) → Heap → Prop} {YP : World → Heap → Prop} {d : DefRec} {K : Params → PySem.W.Frag} (hn : l.most = some 63) (hdf : d.params.defaults = [])
    (hY : ∀ (w : World) (h : Heap), YP w h → (K w.params).In h)
    (F : ∀ (w : World) (mg : Str → Option Value) (fa : Addr) (h : Heap), (K w.params).In h → h.Ns mainGlobals mg → mg d.name = some (.ref fa) →
      ∃ fd : FuncData, (∀ (s : Shared) (u : Value), BindsTo s fd ⟨[u], []⟩ [("_law_script", u)]) ∧ ∀ base : Heap, (K w.params).In base → base.Ns mainGlobals mg → FnOk l.prog w (K w.params) mg base CX0 194 fa fd ["_law_script"] (spLaw (K w.params))) :
    PySem.W.WalkO q loose XP YP l.row.toRowW d [] (fun f vs => PySem.call f vs) :=
  L2.walk_of (n := 63) (k := 194) (x := "_law_script") (CX := fun _ => CX0) (sp := fun w => spLaw (K w.params)) hn (by decide) hdf ⟨by decide, by decide, fun _ => rfl⟩ hY F (fun _ _ a ns hl _ hS => ⟨a, ns, rfl, hS, hl, fun _ => rfl⟩) fun _ _ _ _ _ z => z
end K30
end
section
namespace HD
open PySem PySem.W PySem.Calls PyProof.Rows
def halves {α : Type} : List α → List α × List α
  | [] => ([], [])
  | x :: r => (x :: (halves r).2, (halves r).1)
def mkTF : Nat → List Obj → BT
  | 0, _ => .nil
  | _ + 1, [] => .nil
  | n + 1, x :: r => .node x (mkTF n (halves r).1) (mkTF n (halves r).2)
def mkT (l : List Obj) : BT := mkTF 14 l
def i (n : Nat) : Value := .int (.ofNat n) 0
def view (p : Program) (l : List Stmt) : Program := { p with main := { p.main with body := l } }
abbrev Two (β : Type) : Type := World → (OsState → β) × (OsState → β)
def Ok {β : Type} (q : Two β) : Prop := ∀ w, (q w).1 = (q w).2
theorem by1 {β : Type} {q q' : Two β} (e : q = q') (h : ∀ w, (q' w).1 = (q' w).2) : Ok q := by
  subst e
  exact h
theorem by2 {β : Type} {q qf qt : Two β} (r : String) (ef : (fun w => q (w.withFollow r false)) = qf) (et : (fun w => q (w.withFollow r true)) = qt) (hf : ∀ w, (qf w).1 = (qf w).2) (ht : ∀ w, (qt w).1 = (qt w).2) : Ok q := by
  subst ef et
  exact fun w => byRow2 r (P := fun w => (q w).1 = (q w).2) hf ht w
section
variable (p : Program) (m : Nat) (ann : Option Value)
def pre (n : Nat) (S S' : World → OsState → Shared) (t t' : Thread) : Two (Option (Shared × Thread)) := fun w => (fun os => topGo treeTable p w m ann n (S w os) t, fun os => some (S' w os, t'))
def blk (n : Nat) (S : World → OsState → Shared) (S' : World → OsState → SharedT) (b : List Stmt) (env : Env) (c : Code) (p1 p2 : Pos) (B : List Frame) : Two (Option (Flow × Shared × Code × Pos)) :=
  fun w => (fun os => segRun treeTable p w m ann 1 n (S w os) (blockOf b env c p1 B), fun os => some (Flow.next, (S' w os).abs, c, p2))
def seg (n : Nat) (S S' : World → OsState → SharedT) (l : List Stmt) (env : Env) (c : Code) (p1 p2 : Pos) (B : List Frame) : Two (Option (Flow × SharedT × Code × Pos)) :=
  fun w => (fun os => segRunT treeTable p w m ann 1 n (S w os) (piecesOf l env c p1 B), fun os => some (Flow.next, S' w os, c, p2))
def fin (n : Nat) (S : World → OsState → SharedT) (S' : World → OsState → Shared) (t : Thread) : Two (Option Shared) := fun w => (fun os => topRun treeTable p w m ann n (S w os).abs t, fun os => some (S' w os))
variable {p : Program} {m : Nat} {ann : Option Value}
def Goes (p : Program) (m : Nat) (ann : Option Value) (R : World → OsState → Shared) (n : Nat) (S : World → OsState → Shared) (t : Thread) : Prop := ∀ w os, topRun treeTable p w m ann n (S w os) t = some (R w os)
def absS (S : World → OsState → SharedT) : World → OsState → Shared := fun w os => (S w os).abs
theorem g_fin {n : Nat} {S : World → OsState → SharedT} {R : World → OsState → Shared} {env : Env} {c : Code} {pos q : Pos} (h : Ok (fin p m ann n S R ⟨doneF .next, c, pos, [topFrame q]⟩)) :
    Goes p m ann R n (absS S) (restOf [] env c pos [topFrame q]) := fun w os => piece_nil (congrFun (h w) os)
theorem g_seg {n N : Nat} {S S' : World → OsState → SharedT} {R : World → OsState → Shared} {l rest : List Stmt} {env : Env} {c : Code} {p1 p2 q : Pos} (h : Ok (seg p m ann n S S' l env c p1 p2 [topFrame q]))
    (k : Goes p m ann R N (absS S') (restOf rest env c p2 [topFrame q])) : Goes p m ann R (n + N) (absS S) (restOf (l ++ rest) env c p1 [topFrame q]) := fun w os => piece_app (segRun_of (congrFun (h w) os)) (k w os)
theorem g_blk {n N : Nat} {S : World → OsState → Shared} {S' : World → OsState → SharedT} {R : World → OsState → Shared} {b b' : List Stmt} {env : Env} {p1 p2 q : Pos} (e : b = b') (h : Ok (blk p m ann n S S' b env (.body b env) p1 p2 [topFrame q]))
    (k : Goes p m ann R N (absS S') (restOf b' env (.body b env) p2 [topFrame q])) : Goes p m ann R (n + N) S ⟨denote treeTable (.body b env), .body b env, p1, [topFrame q]⟩ := fun w os => by
  subst e
  exact piece_block (congrFun (h w) os) (k w os)
theorem g_pre {n N : Nat} {S S' R : World → OsState → Shared} {t t' : Thread} (h : Ok (pre p m ann n S S' t t')) (k : Goes p m ann R N S' t') : Goes p m ann R (n + N) S t := fun w os => go_top (congrFun (h w) os) (k w os)
end
def sz (m : Nat) (ann : Option Value) : Two (Bool × Nat × Option Value) := fun w => (fun _ => ((boot_heap w.params).isNs mainGlobals && (Array.mk [] : Array GenState).size == 0, (boot_heap w.params).objs.size, (boot_heap w.params).nsMap mainGlobals "__annotations__"), fun _ => (true, m, ann))
def mkS (H : Params → Heap) (d : Drawn) (k : Nat) : World → OsState → Shared := fun w os => ⟨H w.params, Array.mk [], d, k, os⟩
def la (p : Program) (H₁ : Params → Heap) (d : Drawn) (k : Nat) : Two Bool := fun w => (fun os => (staticsOk (importedModules p.main.body) (boot_heap w.params) (H₁ w.params) && namesBound p (H₁ w.params) && gensDone ⟨H₁ w.params, Array.mk [], d, k, os⟩ && laidKept (boot_heap w.params) (H₁ w.params)), fun _ => true)
def lb (p q : Program) (loose : List Str) (Xt : Shared → Bool) (H₁ : Params → Heap) (d : Drawn) (k : Nat) := fun (w : World) => ((fun (os : OsState) => openSeen q loose (importedModules p.main.body) Xt true ⟨H₁ w.params, Array.mk [], d, k, os⟩), (fun (_ : OsState) => openGood q loose))
def lc (H : Hook) (H₁ : Params → Heap) (d : Drawn) (k : Nat) : Two H.α := fun w => (fun os => H.obs ⟨H₁ w.params, Array.mk [], d, k, os⟩, fun _ => H.val w)
theorem left {p q : Program} {loose : List Str} {Xt : Shared → Bool} {H : Hook} {N m M : Nat} {ann : Option Value} {H₁ : Params → Heap} {d : Drawn} {k : Nat} (e : opening p = plainProg p.main.scope.names) (hN : Nat.ble 600 N = true) (f : ∀ s, fenceModules? p s = some s)
    (size : Ok (sz m ann)) (run : Goes p m ann (mkS H₁ d k) M (mkS boot_heap boot_drawn boot_toks) (topStub p)) (le : Nat.ble M N = true) (ha : Ok (la p H₁ d k)) (hb : Ok (lb p q loose Xt H₁ d k)) (hc : Ok (lc H H₁ d k)) : LeftO p q loose Xt H.obs H.val N :=
  LeftO.of_pieces (H₀ := boot_heap) (H₁ := H₁) (boot_open e hN f) (fun w => congrFun (size w) default) run le
    fun w => funext fun os => looks_pair (congrFun (ha w) os) (looks_pair (congrFun (hb w) os) (congrFun (hc w) os))
end HD
end
section
namespace K30
open PySem PySem.W PySem.Calls PyProof.Rows
abbrev pw : Program := PySem.Challenge.pw_keeper_k30_parting
def ht (i : Nat) : Stmt := pw.main.body.getD i (.Pass ⟨0, 0, 0, 0⟩)
def x0 : Str := .ofString "__name__"
def x1 : Str := .ofString "builtins"
def x2 : Str := .ofString "__doc__"
def x3 : Str := .ofString "__package__"
def x4 : Str := .ofString "__loader__"
def x5 : Str := .ofString "__spec__"
def x7 : Str := .ofString "__import__"
def x9 : Str := .ofString "all"
def x11 : Str := .ofString "ascii"
def x12 : Str := .ofString "bin"
def x13 : Str := .ofString "breakpoint"
def x14 : Str := .ofString "callable"
def x17 : Str := .ofString "delattr"
def x19 : Str := .ofString "divmod"
def x35 : Str := .ofString "locals"
def x160 : Str := .ofString "__main__"
def x161 : Str := .ofString "__annotations__"
def x162 : Str := .ofString "__builtins__"
def x163 : Str := .ofString "__file__"
def x164 : Str := .ofString "/claim/cut.py"
def x165 : Str := .ofString "__cached__"
def x166 : Str := .ofString "<module>"
def x167 : Str := .ofString "keeper.things"
def x168 : Str := .ofString "kids_of"
def x169 : Str := .ofString "thing"
def x170 : Str := .ofString "keeper.equality"
def x171 : Str := .ofString "is_unlike"
def x172 : Str := .ofString "one"
def x173 : Str := .ofString "other"
def x174 : Str := .ofString "parting"
def x175 : Str := .ofString "gone"
def x176 : Str := .ofString "number"
def x177 : Str := .ofString "pair"
def x178 : Str := .ofString "place"
def x179 : Str := .ofString "law_keeper_k30_parting"
def x180 : Str := .ofString "_law_draw"
def x181 : Str := .ofString "_law_script"
def x182 : Str := .ofString "_law_tape"
def x183 : Str := .ofString "_law_many"
def x184 : Str := .ofString "_law_seed"
def x185 : Str := .ofString "_law_cell"
def x186 : Str := .ofString "_law_named"
def x187 : Str := .ofString "_law_word"
def x188 : Str := .ofString "_law_pool"
def x189 : Str := .ofString "_law_leaf"
def x190 : Str := .ofString "_law_near"
def x191 : Str := .ofString "_law_pool_here"
def x192 : Str := .ofString "_law_way"
def x193 : Str := .ofString "_law_kind"
def x194 : Str := .ofString "_law_deep"
def x195 : Str := .ofString "_law_first"
def x196 : Str := .ofString "_law_kind_here"
def x197 : Str := .ofString "_law_fun"
def x198 : Str := .ofString "_law_pair"
def x199 : Str := .ofString "_law_like"
def x200 : Str := .ofString "_law_number"
def x201 : Str := .ofString "_law_parted"
def x202 : Str := .ofString "_law_second"
def x203 : Str := .ofString "_law_still"
def x204 : Str := .ofString "_law_one"
def x205 : Str := .ofString "_law_two"
def x206 : Str := .ofString "_law_three"
def x207 : Str := .ofString "_law_term"
def x208 : Str := .ofString "_law_kids"
def x209 : Str := .ofString "_law_thing_here"
def x210 : Str := .ofString "_law_measured"
def x211 : Str := .ofString "_law_knots"
def x212 : Str := .ofString "_law_most"
def x213 : Str := .ofString "_law_kid"
def x214 : Str := .ofString "_law_told_here"
def x215 : Str := .ofString "_law_great"
def x216 : Str := .ofString "_law_thing"
def x217 : Str := .ofString "_law_made"
def x218 : Str := .ofString "_law_book"
def x219 : Str := .ofString "_law_book_here"
def x220 : Str := .ofString "_law_k"
def x221 : Str := .ofString "_law_rule"
def x222 : Str := .ofString "_law_heads"
def x223 : Str := .ofString "_law_rows"
def x224 : Str := .ofString "_law_found"
def x225 : Str := .ofString "_law_waiting"
def x226 : Str := .ofString "_law_place"
def x227 : Str := .ofString "_law_here"
def x228 : Str := .ofString "_law_kids_here"
def x229 : Str := .ofString "_law_step"
def x230 : Str := .ofString "_law_number_here"
def x231 : Str := .ofString "_law_with"
def x232 : Str := .ofString "_law_new"
def x233 : Str := .ofString "_law_at"
def x234 : Str := .ofString "_law_unlike"
def x235 : Str := .ofString "_law_there"
def x236 : Str := .ofString "_law_due"
def x237 : Str := .ofString "_law_other"
def x238 : Str := .ofString "_law_rows_here"
def x239 : Str := .ofString "_law_others"
def x240 : Str := .ofString "_law_changed"
def x241 : Str := .ofString "_law_row"
def x242 : Str := .ofString "_law_sized"
def x243 : Str := .ofString "_law_nexts"
def x244 : Str := .ofString "_law_told"
def x245 : Str := .ofString "_law_due_here"
def x246 : Str := .ofString "law"
def x247 : Str := .ofString "_law_sort"
def x248 : Str := .ofString "_law_side"
def hE : Env := { scope := pw.main.scope, locals := mainNs, globals := mainNs, cells := [], code := (.ref 13), frame := some (nat_lit 14) }
def hC : Code := .body (behindTheImports pw) hE
def hB : List Frame := [topFrame ⟨0, 0, 0, 0⟩]
abbrev S0 : World → OsState → Shared := HD.mkS boot_heap boot_drawn boot_toks
def o11_a (P : Params) : Obj := ⟨(.type "tuple"), none, (.seq #[] 0), #[]⟩
def o12_a (P : Params) : Obj := ⟨.none, none, (.fields #[]), #[]⟩
def o13_a (P : Params) : Obj := ⟨(.type "code"), none, (.fields #[(.str x166 182), (.str x166 183), (.str x164 184), (HD.i 1), (HD.i 0), (HD.i 0), (HD.i 0), (HD.i 0), (.ref 11), (.bool false), (HD.i 181), (.ref 12), .none, .none, .none, .none, (HD.i 185), (HD.i 1), (.str x164 186)]), #[]⟩
def o14_a (P : Params) : Obj := ⟨(.type "frame"), none, .plain, #[(some (.ref 13)), (some (.ref 3)), (some (.ref 3)), none, (some (.str x160 164)), none, (some (.ref 0))]⟩
def Ha_0 (P : Params) (r : List (Obj)) : List (Obj) := PySem.W.boot_o_0 P :: PySem.W.boot_o_1 P :: PySem.W.boot_o_2 P :: PySem.W.boot_o_3 P :: PySem.W.boot_o_4 P :: PySem.W.boot_o_5 P :: PySem.W.boot_o_6 P :: PySem.W.boot_o_7 P :: PySem.W.boot_o_8 P :: PySem.W.boot_o_9 P :: PySem.W.boot_o_10 P :: o11_a P :: r
def Ha_1 (P : Params) (r : List (Obj)) : List (Obj) := o12_a P :: o13_a P :: o14_a P :: r
def Ha (P : Params) : Heap := ⟨Array.mk (Ha_0 P (Ha_1 P [])), ⟨[], [], [], 0, [], [], false, #[], [], 0, false, false, false, (.ofNat 0), [(.ofNat 2000), (.ofNat 10), (.ofNat 10)], false, 0, true, [], [], 0, false⟩⟩
def da : Drawn := ⟨0, 0, 0, 0⟩
def ka : Nat := nat_lit 187
abbrev Sa : World → OsState → Shared := HD.mkS Ha da ka
def qa (w : World) : (OsState → Option (Shared × Thread)) × (OsState → Option (Shared × Thread)) := (fun os => topGo treeTable pw w (nat_lit 11) (some (.ref 6)) (nat_lit 12) (S0 w os) (topStub pw), fun os => some (Sa w os, Thread.mk (denote treeTable hC) hC ⟨0, 0, 0, 0⟩ hB))
theorem qa_eq : HD.pre pw (nat_lit 11) (some (.ref 6)) (nat_lit 12) S0 Sa (topStub pw) (Thread.mk (denote treeTable hC) hC ⟨0, 0, 0, 0⟩ hB) = qa := by kernel_rfl
name_quick YK30a for qa by qa_eq
theorem ia (w : World) : (Fast.YK30a w).1 = (Fast.YK30a w).2 := by kernel_rfl
theorem ha : HD.Ok (HD.pre pw (nat_lit 11) (some (.ref 6)) (nat_lit 12) S0 Sa (topStub pw) (Thread.mk (denote treeTable hC) hC ⟨0, 0, 0, 0⟩ hB)) := HD.by1 Fast.YK30a_eq ia
def Tb_0 (P : Params) (r : List (Obj)) : List (Obj) := PySem.W.boot_o_0 P :: PySem.W.boot_o_1 P :: PySem.W.boot_o_2 P :: PySem.W.boot_o_3 P :: PySem.W.boot_o_4 P :: PySem.W.boot_o_5 P :: PySem.W.boot_o_6 P :: PySem.W.boot_o_7 P :: PySem.W.boot_o_8 P :: PySem.W.boot_o_9 P :: PySem.W.boot_o_10 P :: o11_a P :: r
def Tb_1 (P : Params) (r : List (Obj)) : List (Obj) := o12_a P :: o13_a P :: o14_a P :: r
def Tb (P : Params) : BT := HD.mkT (Tb_0 P (Tb_1 P []))
def lfb : Life := ⟨[], [], [], 0, [], [], false, #[], [], 0, false, false, false, (.ofNat 0), [(.ofNat 2000), (.ofNat 10), (.ofNat 10)], false, 0, true, [], [], 0, false⟩
abbrev Sb (w : World) (os : OsState) : SharedT := ⟨Tb w.params, nat_lit 15, lfb, Array.mk [], ⟨0, 0, 0, 0⟩, nat_lit 187, os⟩
def qb (w : World) : (OsState → Option (Flow × Shared × Code × Pos)) × (OsState → Option (Flow × Shared × Code × Pos)) := (fun os => segRun treeTable pw w (nat_lit 11) (some (.ref 6)) (nat_lit 1) (nat_lit 1) (Sa w os) (blockOf (behindTheImports pw) hE hC ⟨0, 0, 0, 0⟩ hB), fun os => some (Flow.next, (Sb w os).abs, hC, ⟨0, 0, 0, 0⟩))
theorem qb_eq : HD.blk pw (nat_lit 11) (some (.ref 6)) (nat_lit 1) Sa Sb (behindTheImports pw) hE hC ⟨0, 0, 0, 0⟩ ⟨0, 0, 0, 0⟩ hB = qb := by kernel_rfl
name_quick YK30b for qb by qb_eq
theorem ib (w : World) : (Fast.YK30b w).1 = (Fast.YK30b w).2 := by kernel_rfl
theorem hb : HD.Ok (HD.blk pw (nat_lit 11) (some (.ref 6)) (nat_lit 1) Sa Sb (behindTheImports pw) hE hC ⟨0, 0, 0, 0⟩ ⟨0, 0, 0, 0⟩ hB) := HD.by1 Fast.YK30b_eq ib
def o3_1 (P : Params) : Obj := ⟨(.type "dict"), none, (.dict #[⟨(PyData.keyHash P x0), (.str x0 165), (.str x179 218)⟩, ⟨(PyData.keyHash P x2), (.str x2 166), .none⟩, ⟨(PyData.keyHash P x3), (.str x3 167), .none⟩, ⟨(PyData.keyHash P x4), (.str x4 168), (.builtin "__main__.__loader__#opaque")⟩, ⟨(PyData.keyHash P x5), (.str x5 169), .none⟩, ⟨(PyData.keyHash P x161), (.str x161 170), (.ref 6)⟩, ⟨(PyData.keyHash P x162), (.str x162 171), (.ref 4)⟩, ⟨(PyData.keyHash P x163), (.str x163 173), (.str x164 172)⟩, ⟨(PyData.keyHash P x165), (.str x165 174), .none⟩, ⟨(PyData.keyHash P x168), (.str x168 195), (.ref 21)⟩, ⟨(PyData.keyHash P x171), (.str x171 205), (.ref 28)⟩, ⟨(PyData.keyHash P x174), (.str x174 217), (.ref 35)⟩, ⟨(PyData.keyHash P x180), (.str x180 230), (.ref 42)⟩, ⟨(PyData.keyHash P x186), (.str x186 237), (.ref 49)⟩, ⟨(PyData.keyHash P x188), (.str x188 243), (.ref 54)⟩, ⟨(PyData.keyHash P x189), (.str x189 254), (.ref 61)⟩, ⟨(PyData.keyHash P x193), (.str x193 268), (.ref 68)⟩, ⟨(PyData.keyHash P x197), (.str x197 280), (.ref 75)⟩, ⟨(PyData.keyHash P x198), (.str x198 293), (.ref 82)⟩, ⟨(PyData.keyHash P x199), (.str x199 305), (.ref 89)⟩] 20), #[]⟩
def o12_1 (P : Params) : Obj := ⟨.none, none, (.fields #[(HD.i 2), (HD.i 0), (.ref 20), (HD.i 7), (HD.i 0), (.ref 27), (HD.i 11), (HD.i 0), (.ref 34), (HD.i 24), (HD.i 0), (.ref 41), (HD.i 32), (HD.i 0), (.ref 48), (HD.i 38), (HD.i 0), (.ref 53), (HD.i 47), (HD.i 0), (.ref 60), (HD.i 58), (HD.i 0), (.ref 67), (HD.i 68), (HD.i 0), (.ref 74), (HD.i 71), (HD.i 0), (.ref 81), (HD.i 75), (HD.i 0), (.ref 88)]), #[]⟩
def o15_1 (P : Params) : Obj := ⟨(.type "tuple"), none, (.seq #[] 0), #[]⟩
def o16_1 (P : Params) : Obj := ⟨.none, none, (.fields #[]), #[]⟩
def o17_1 (P : Params) : Obj := ⟨(.type "tuple"), none, (.seq #[(.str x169 192)] 0), #[]⟩
def o18_1 (P : Params) : Obj := ⟨(.type "tuple"), none, (.seq #[] 0), #[]⟩
def o19_1 (P : Params) : Obj := ⟨.none, none, (.func ⟨x168, x168, L2.defArgs (ht 1), .stmts (L2.defBody (ht 1)), L2.defScope (ht 1), 0, [], .none, .none, .none, .none, none, .none, .none, 0⟩), #[]⟩
def o20_1 (P : Params) : Obj := ⟨(.type "code"), none, (.fields #[(.str x168 189), (.str x168 190), (.str x164 191), (HD.i 2), (HD.i 1), (HD.i 0), (HD.i 0), (HD.i 3), (.ref 15), (.bool true), (HD.i 181), (.ref 16), .none, (.ref 17), (.ref 18), (.ref 19), (HD.i 193), (HD.i 2), (.str x164 194)]), #[]⟩
def o21_1 (P : Params) : Obj := ⟨(.type "function"), none, (.func ⟨x168, x168, L2.defArgs (ht 1), .stmts (L2.defBody (ht 1)), L2.defScope (ht 1), 3, [], .none, .none, .none, (.str x167 187), none, (.ref 20), .none, 0⟩), #[]⟩
def o22_1 (P : Params) : Obj := ⟨(.type "tuple"), none, (.seq #[] 0), #[]⟩
def o23_1 (P : Params) : Obj := ⟨.none, none, (.fields #[]), #[]⟩
def o24_1 (P : Params) : Obj := ⟨(.type "tuple"), none, (.seq #[(.str x172 201), (.str x173 202)] 0), #[]⟩
def o25_1 (P : Params) : Obj := ⟨(.type "tuple"), none, (.seq #[] 0), #[]⟩
def o26_1 (P : Params) : Obj := ⟨.none, none, (.func ⟨x171, x171, L2.defArgs (ht 3), .stmts (L2.defBody (ht 3)), L2.defScope (ht 3), 0, [], .none, .none, .none, .none, none, .none, .none, 0⟩), #[]⟩
def o27_1 (P : Params) : Obj := ⟨(.type "code"), none, (.fields #[(.str x171 198), (.str x171 199), (.str x164 200), (HD.i 7), (HD.i 2), (HD.i 0), (HD.i 0), (HD.i 3), (.ref 22), (.bool true), (HD.i 181), (.ref 23), .none, (.ref 24), (.ref 25), (.ref 26), (HD.i 203), (HD.i 7), (.str x164 204)]), #[]⟩
def o28_1 (P : Params) : Obj := ⟨(.type "function"), none, (.func ⟨x171, x171, L2.defArgs (ht 3), .stmts (L2.defBody (ht 3)), L2.defScope (ht 3), 3, [], .none, .none, .none, (.str x170 196), none, (.ref 27), .none, 0⟩), #[]⟩
def o29_1 (P : Params) : Obj := ⟨(.type "tuple"), none, (.seq #[] 0), #[]⟩
def o30_1 (P : Params) : Obj := ⟨.none, none, (.fields #[]), #[]⟩
def o31_1 (P : Params) : Obj := ⟨(.type "tuple"), none, (.seq #[(.str x172 209), (.str x173 210), (.str x175 211), (.str x176 212), (.str x177 213), (.str x178 214)] 0), #[]⟩
def o32_1 (P : Params) : Obj := ⟨(.type "tuple"), none, (.seq #[] 0), #[]⟩
def o33_1 (P : Params) : Obj := ⟨.none, none, (.func ⟨x174, x174, L2.defArgs (ht 4), .stmts (L2.defBody (ht 4)), L2.defScope (ht 4), 0, [], .none, .none, .none, .none, none, .none, .none, 0⟩), #[]⟩
def o34_1 (P : Params) : Obj := ⟨(.type "code"), none, (.fields #[(.str x174 206), (.str x174 207), (.str x164 208), (HD.i 11), (HD.i 2), (HD.i 0), (HD.i 0), (HD.i 3), (.ref 29), (.bool true), (HD.i 181), (.ref 30), .none, (.ref 31), (.ref 32), (.ref 33), (HD.i 215), (HD.i 11), (.str x164 216)]), #[]⟩
def o35_1 (P : Params) : Obj := ⟨(.type "function"), none, (.func ⟨x174, x174, L2.defArgs (ht 4), .stmts (L2.defBody (ht 4)), L2.defScope (ht 4), 3, [], .none, .none, .none, (.str x170 196), none, (.ref 34), .none, 0⟩), #[]⟩
def o36_1 (P : Params) : Obj := ⟨(.type "tuple"), none, (.seq #[] 0), #[]⟩
def o37_1 (P : Params) : Obj := ⟨.none, none, (.fields #[]), #[]⟩
def o38_1 (P : Params) : Obj := ⟨(.type "tuple"), none, (.seq #[(.str x181 223), (.str x182 224), (.str x183 225), (.str x184 226), (.str x185 227)] 0), #[]⟩
def o39_1 (P : Params) : Obj := ⟨(.type "tuple"), none, (.seq #[] 0), #[]⟩
def o40_1 (P : Params) : Obj := ⟨.none, none, (.func ⟨x180, x180, L2.defArgs (ht 6), .stmts (L2.defBody (ht 6)), L2.defScope (ht 6), 0, [], .none, .none, .none, .none, none, .none, .none, 0⟩), #[]⟩
def o41_1 (P : Params) : Obj := ⟨(.type "code"), none, (.fields #[(.str x180 220), (.str x180 221), (.str x164 222), (HD.i 24), (HD.i 3), (HD.i 0), (HD.i 0), (HD.i 3), (.ref 36), (.bool true), (HD.i 181), (.ref 37), .none, (.ref 38), (.ref 39), (.ref 40), (HD.i 228), (HD.i 24), (.str x164 229)]), #[]⟩
def o42_1 (P : Params) : Obj := ⟨(.type "function"), none, (.func ⟨x180, x180, L2.defArgs (ht 6), .stmts (L2.defBody (ht 6)), L2.defScope (ht 6), 3, [], .none, .none, .none, (.str x179 218), none, (.ref 41), .none, 0⟩), #[]⟩
def o43_1 (P : Params) : Obj := ⟨(.type "tuple"), none, (.seq #[] 0), #[]⟩
def o44_1 (P : Params) : Obj := ⟨.none, none, (.fields #[]), #[]⟩
def o45_1 (P : Params) : Obj := ⟨(.type "tuple"), none, (.seq #[(.str x187 234)] 0), #[]⟩
def o46_1 (P : Params) : Obj := ⟨(.type "tuple"), none, (.seq #[] 0), #[]⟩
def o47_1 (P : Params) : Obj := ⟨.none, none, (.func ⟨x186, x186, L2.defArgs (ht 7), .stmts (L2.defBody (ht 7)), L2.defScope (ht 7), 0, [], .none, .none, .none, .none, none, .none, .none, 0⟩), #[]⟩
def o48_1 (P : Params) : Obj := ⟨(.type "code"), none, (.fields #[(.str x186 231), (.str x186 232), (.str x164 233), (HD.i 32), (HD.i 1), (HD.i 0), (HD.i 0), (HD.i 3), (.ref 43), (.bool true), (HD.i 181), (.ref 44), .none, (.ref 45), (.ref 46), (.ref 47), (HD.i 235), (HD.i 32), (.str x164 236)]), #[]⟩
def o49_1 (P : Params) : Obj := ⟨(.type "function"), none, (.func ⟨x186, x186, L2.defArgs (ht 7), .stmts (L2.defBody (ht 7)), L2.defScope (ht 7), 3, [], .none, .none, .none, (.str x179 218), none, (.ref 48), .none, 0⟩), #[]⟩
def o50_1 (P : Params) : Obj := ⟨(.type "tuple"), none, (.seq #[] 0), #[]⟩
def o51_1 (P : Params) : Obj := ⟨.none, none, (.fields #[]), #[]⟩
def o52_1 (P : Params) : Obj := ⟨.none, none, (.func ⟨x188, x188, L2.defArgs (ht 8), .stmts (L2.defBody (ht 8)), L2.defScope (ht 8), 0, [], .none, .none, .none, .none, none, .none, .none, 0⟩), #[]⟩
def o53_1 (P : Params) : Obj := ⟨(.type "code"), none, (.fields #[(.str x188 238), (.str x188 239), (.str x164 240), (HD.i 38), (HD.i 2), (HD.i 0), (HD.i 0), (HD.i 3), (.ref 50), (.bool true), (HD.i 181), (.ref 51), .none, .none, .none, (.ref 52), (HD.i 241), (HD.i 38), (.str x164 242)]), #[]⟩
def o54_1 (P : Params) : Obj := ⟨(.type "function"), none, (.func ⟨x188, x188, L2.defArgs (ht 8), .stmts (L2.defBody (ht 8)), L2.defScope (ht 8), 3, [], .none, .none, .none, (.str x179 218), none, (.ref 53), .none, 0⟩), #[]⟩
def o55_1 (P : Params) : Obj := ⟨(.type "tuple"), none, (.seq #[] 0), #[]⟩
def o56_1 (P : Params) : Obj := ⟨.none, none, (.fields #[]), #[]⟩
def o57_1 (P : Params) : Obj := ⟨(.type "tuple"), none, (.seq #[(.str x181 247), (.str x182 248), (.str x190 249), (.str x191 250), (.str x192 251)] 0), #[]⟩
def o58_1 (P : Params) : Obj := ⟨(.type "tuple"), none, (.seq #[] 0), #[]⟩
def o59_1 (P : Params) : Obj := ⟨.none, none, (.func ⟨x189, x189, L2.defArgs (ht 9), .stmts (L2.defBody (ht 9)), L2.defScope (ht 9), 0, [], .none, .none, .none, .none, none, .none, .none, 0⟩), #[]⟩
def o60_1 (P : Params) : Obj := ⟨(.type "code"), none, (.fields #[(.str x189 244), (.str x189 245), (.str x164 246), (HD.i 47), (HD.i 4), (HD.i 0), (HD.i 0), (HD.i 3), (.ref 55), (.bool true), (HD.i 181), (.ref 56), .none, (.ref 57), (.ref 58), (.ref 59), (HD.i 252), (HD.i 47), (.str x164 253)]), #[]⟩
def o61_1 (P : Params) : Obj := ⟨(.type "function"), none, (.func ⟨x189, x189, L2.defArgs (ht 9), .stmts (L2.defBody (ht 9)), L2.defScope (ht 9), 3, [], .none, .none, .none, (.str x179 218), none, (.ref 60), .none, 0⟩), #[]⟩
def o62_1 (P : Params) : Obj := ⟨(.type "tuple"), none, (.seq #[] 0), #[]⟩
def o63_1 (P : Params) : Obj := ⟨.none, none, (.fields #[]), #[]⟩
def o64_1 (P : Params) : Obj := ⟨(.type "tuple"), none, (.seq #[(.str x181 258), (.str x182 259), (.str x194 260), (.str x190 261), (.str x191 262), (.str x192 263), (.str x195 264), (.str x196 265)] 0), #[]⟩
def o65_1 (P : Params) : Obj := ⟨(.type "tuple"), none, (.seq #[] 0), #[]⟩
def o66_1 (P : Params) : Obj := ⟨.none, none, (.func ⟨x193, x193, L2.defArgs (ht 10), .stmts (L2.defBody (ht 10)), L2.defScope (ht 10), 0, [], .none, .none, .none, .none, none, .none, .none, 0⟩), #[]⟩
def o67_1 (P : Params) : Obj := ⟨(.type "code"), none, (.fields #[(.str x193 255), (.str x193 256), (.str x164 257), (HD.i 58), (HD.i 5), (HD.i 0), (HD.i 0), (HD.i 3), (.ref 62), (.bool true), (HD.i 181), (.ref 63), .none, (.ref 64), (.ref 65), (.ref 66), (HD.i 266), (HD.i 58), (.str x164 267)]), #[]⟩
def o68_1 (P : Params) : Obj := ⟨(.type "function"), none, (.func ⟨x193, x193, L2.defArgs (ht 10), .stmts (L2.defBody (ht 10)), L2.defScope (ht 10), 3, [], .none, .none, .none, (.str x179 218), none, (.ref 67), .none, 0⟩), #[]⟩
def o69_1 (P : Params) : Obj := ⟨(.type "tuple"), none, (.seq #[] 0), #[]⟩
def o70_1 (P : Params) : Obj := ⟨.none, none, (.fields #[]), #[]⟩
def o71_1 (P : Params) : Obj := ⟨(.type "tuple"), none, (.seq #[(.str x181 272), (.str x182 273), (.str x194 274), (.str x190 275), (.str x191 276), (.str x196 277)] 0), #[]⟩
def o72_1 (P : Params) : Obj := ⟨(.type "tuple"), none, (.seq #[] 0), #[]⟩
def o73_1 (P : Params) : Obj := ⟨.none, none, (.func ⟨x197, x197, L2.defArgs (ht 11), .stmts (L2.defBody (ht 11)), L2.defScope (ht 11), 0, [], .none, .none, .none, .none, none, .none, .none, 0⟩), #[]⟩
def o74_1 (P : Params) : Obj := ⟨(.type "code"), none, (.fields #[(.str x197 269), (.str x197 270), (.str x164 271), (HD.i 68), (HD.i 5), (HD.i 0), (HD.i 0), (HD.i 3), (.ref 69), (.bool true), (HD.i 181), (.ref 70), .none, (.ref 71), (.ref 72), (.ref 73), (HD.i 278), (HD.i 68), (.str x164 279)]), #[]⟩
def o75_1 (P : Params) : Obj := ⟨(.type "function"), none, (.func ⟨x197, x197, L2.defArgs (ht 11), .stmts (L2.defBody (ht 11)), L2.defScope (ht 11), 3, [], .none, .none, .none, (.str x179 218), none, (.ref 74), .none, 0⟩), #[]⟩
def o76_1 (P : Params) : Obj := ⟨(.type "tuple"), none, (.seq #[] 0), #[]⟩
def o77_1 (P : Params) : Obj := ⟨.none, none, (.fields #[]), #[]⟩
def o78_1 (P : Params) : Obj := ⟨(.type "tuple"), none, (.seq #[(.str x181 284), (.str x182 285), (.str x194 286), (.str x190 287), (.str x191 288), (.str x196 289), (.str x195 290)] 0), #[]⟩
def o79_1 (P : Params) : Obj := ⟨(.type "tuple"), none, (.seq #[] 0), #[]⟩
def o80_1 (P : Params) : Obj := ⟨.none, none, (.func ⟨x198, x198, L2.defArgs (ht 12), .stmts (L2.defBody (ht 12)), L2.defScope (ht 12), 0, [], .none, .none, .none, .none, none, .none, .none, 0⟩), #[]⟩
def o81_1 (P : Params) : Obj := ⟨(.type "code"), none, (.fields #[(.str x198 281), (.str x198 282), (.str x164 283), (HD.i 71), (HD.i 5), (HD.i 0), (HD.i 0), (HD.i 3), (.ref 76), (.bool true), (HD.i 181), (.ref 77), .none, (.ref 78), (.ref 79), (.ref 80), (HD.i 291), (HD.i 71), (.str x164 292)]), #[]⟩
def o82_1 (P : Params) : Obj := ⟨(.type "function"), none, (.func ⟨x198, x198, L2.defArgs (ht 12), .stmts (L2.defBody (ht 12)), L2.defScope (ht 12), 3, [], .none, .none, .none, (.str x179 218), none, (.ref 81), .none, 0⟩), #[]⟩
def o83_1 (P : Params) : Obj := ⟨(.type "tuple"), none, (.seq #[] 0), #[]⟩
def o84_1 (P : Params) : Obj := ⟨.none, none, (.fields #[]), #[]⟩
def o85_1 (P : Params) : Obj := ⟨(.type "tuple"), none, (.seq #[(.str x181 297), (.str x182 298), (.str x194 299), (.str x190 300), (.str x191 301), (.str x196 302)] 0), #[]⟩
def o86_1 (P : Params) : Obj := ⟨(.type "tuple"), none, (.seq #[] 0), #[]⟩
def o87_1 (P : Params) : Obj := ⟨.none, none, (.func ⟨x199, x199, L2.defArgs (ht 13), .stmts (L2.defBody (ht 13)), L2.defScope (ht 13), 0, [], .none, .none, .none, .none, none, .none, .none, 0⟩), #[]⟩
def o88_1 (P : Params) : Obj := ⟨(.type "code"), none, (.fields #[(.str x199 294), (.str x199 295), (.str x164 296), (HD.i 75), (HD.i 5), (HD.i 0), (HD.i 0), (HD.i 3), (.ref 83), (.bool true), (HD.i 181), (.ref 84), .none, (.ref 85), (.ref 86), (.ref 87), (HD.i 303), (HD.i 75), (.str x164 304)]), #[]⟩
def o89_1 (P : Params) : Obj := ⟨(.type "function"), none, (.func ⟨x199, x199, L2.defArgs (ht 13), .stmts (L2.defBody (ht 13)), L2.defScope (ht 13), 3, [], .none, .none, .none, (.str x179 218), none, (.ref 88), .none, 0⟩), #[]⟩
def g1 : List Stmt := [ht 0, ht 1, ht 2, ht 3, ht 4, ht 5, ht 6, ht 7, ht 8, ht 9, ht 10, ht 11, ht 12, ht 13]
def T1 (P : Params) : BT := ((((((((((((((((((((((((((((((((((((((((((((((((((((((((((((((((((((((((((((((Tb P).ins (nat_lit 3) (o3_1 P)).ins (nat_lit 12) (o12_1 P)).ins (nat_lit 15) (o15_1 P)).ins (nat_lit 16) (o16_1 P)).ins (nat_lit 17) (o17_1 P)).ins (nat_lit 18) (o18_1 P)).ins (nat_lit 19) (o19_1 P)).ins (nat_lit 20) (o20_1 P)).ins (nat_lit 21) (o21_1 P)).ins (nat_lit 22) (o22_1 P)).ins (nat_lit 23) (o23_1 P)).ins (nat_lit 24) (o24_1 P)).ins (nat_lit 25) (o25_1 P)).ins (nat_lit 26) (o26_1 P)).ins (nat_lit 27) (o27_1 P)).ins (nat_lit 28) (o28_1 P)).ins (nat_lit 29) (o29_1 P)).ins (nat_lit 30) (o30_1 P)).ins (nat_lit 31) (o31_1 P)).ins (nat_lit 32) (o32_1 P)).ins (nat_lit 33) (o33_1 P)).ins (nat_lit 34) (o34_1 P)).ins (nat_lit 35) (o35_1 P)).ins (nat_lit 36) (o36_1 P)).ins (nat_lit 37) (o37_1 P)).ins (nat_lit 38) (o38_1 P)).ins (nat_lit 39) (o39_1 P)).ins (nat_lit 40) (o40_1 P)).ins (nat_lit 41) (o41_1 P)).ins (nat_lit 42) (o42_1 P)).ins (nat_lit 43) (o43_1 P)).ins (nat_lit 44) (o44_1 P)).ins (nat_lit 45) (o45_1 P)).ins (nat_lit 46) (o46_1 P)).ins (nat_lit 47) (o47_1 P)).ins (nat_lit 48) (o48_1 P)).ins (nat_lit 49) (o49_1 P)).ins (nat_lit 50) (o50_1 P)).ins (nat_lit 51) (o51_1 P)).ins (nat_lit 52) (o52_1 P)).ins (nat_lit 53) (o53_1 P)).ins (nat_lit 54) (o54_1 P)).ins (nat_lit 55) (o55_1 P)).ins (nat_lit 56) (o56_1 P)).ins (nat_lit 57) (o57_1 P)).ins (nat_lit 58) (o58_1 P)).ins (nat_lit 59) (o59_1 P)).ins (nat_lit 60) (o60_1 P)).ins (nat_lit 61) (o61_1 P)).ins (nat_lit 62) (o62_1 P)).ins (nat_lit 63) (o63_1 P)).ins (nat_lit 64) (o64_1 P)).ins (nat_lit 65) (o65_1 P)).ins (nat_lit 66) (o66_1 P)).ins (nat_lit 67) (o67_1 P)).ins (nat_lit 68) (o68_1 P)).ins (nat_lit 69) (o69_1 P)).ins (nat_lit 70) (o70_1 P)).ins (nat_lit 71) (o71_1 P)).ins (nat_lit 72) (o72_1 P)).ins (nat_lit 73) (o73_1 P)).ins (nat_lit 74) (o74_1 P)).ins (nat_lit 75) (o75_1 P)).ins (nat_lit 76) (o76_1 P)).ins (nat_lit 77) (o77_1 P)).ins (nat_lit 78) (o78_1 P)).ins (nat_lit 79) (o79_1 P)).ins (nat_lit 80) (o80_1 P)).ins (nat_lit 81) (o81_1 P)).ins (nat_lit 82) (o82_1 P)).ins (nat_lit 83) (o83_1 P)).ins (nat_lit 84) (o84_1 P)).ins (nat_lit 85) (o85_1 P)).ins (nat_lit 86) (o86_1 P)).ins (nat_lit 87) (o87_1 P)).ins (nat_lit 88) (o88_1 P)).ins (nat_lit 89) (o89_1 P))
def lf1 : Life := ⟨[], [], [], 0, [], [], false, #[], [], 0, false, false, false, (.ofNat 0), [(.ofNat 2000), (.ofNat 10), (.ofNat 10)], false, 0, true, [], [], 0, false⟩
abbrev S1 (w : World) (os : OsState) : SharedT := ⟨T1 w.params, nat_lit 90, lf1, Array.mk [], ⟨0, 0, 0, 0⟩, nat_lit 306, os⟩
def q1 (w : World) : (OsState → Option (Flow × SharedT × Code × Pos)) × (OsState → Option (Flow × SharedT × Code × Pos)) := (fun os => segRunT treeTable pw w (nat_lit 11) (some (.ref 6)) (nat_lit 1) (nat_lit 381) (Sb w os) (piecesOf g1 hE hC ⟨0, 0, 0, 0⟩ hB), fun os => some (Flow.next, S1 w os, hC, ⟨75, 0, 77, 112⟩))
theorem q1_eq : HD.seg pw (nat_lit 11) (some (.ref 6)) (nat_lit 381) Sb S1 g1 hE hC ⟨0, 0, 0, 0⟩ ⟨75, 0, 77, 112⟩ hB = q1 := by kernel_rfl
name_quick YK301 for q1 by q1_eq
theorem i1 (w : World) : (Fast.YK301 w).1 = (Fast.YK301 w).2 := by kernel_rfl
theorem h1 : HD.Ok (HD.seg pw (nat_lit 11) (some (.ref 6)) (nat_lit 381) Sb S1 g1 hE hC ⟨0, 0, 0, 0⟩ ⟨75, 0, 77, 112⟩ hB) := HD.by1 Fast.YK301_eq i1
def o3_2 (P : Params) : Obj := ⟨(.type "dict"), none, (.dict #[⟨(PyData.keyHash P x0), (.str x0 165), (.str x179 218)⟩, ⟨(PyData.keyHash P x2), (.str x2 166), .none⟩, ⟨(PyData.keyHash P x3), (.str x3 167), .none⟩, ⟨(PyData.keyHash P x4), (.str x4 168), (.builtin "__main__.__loader__#opaque")⟩, ⟨(PyData.keyHash P x5), (.str x5 169), .none⟩, ⟨(PyData.keyHash P x161), (.str x161 170), (.ref 6)⟩, ⟨(PyData.keyHash P x162), (.str x162 171), (.ref 4)⟩, ⟨(PyData.keyHash P x163), (.str x163 173), (.str x164 172)⟩, ⟨(PyData.keyHash P x165), (.str x165 174), .none⟩, ⟨(PyData.keyHash P x168), (.str x168 195), (.ref 21)⟩, ⟨(PyData.keyHash P x171), (.str x171 205), (.ref 28)⟩, ⟨(PyData.keyHash P x174), (.str x174 217), (.ref 35)⟩, ⟨(PyData.keyHash P x180), (.str x180 230), (.ref 42)⟩, ⟨(PyData.keyHash P x186), (.str x186 237), (.ref 49)⟩, ⟨(PyData.keyHash P x188), (.str x188 243), (.ref 54)⟩, ⟨(PyData.keyHash P x189), (.str x189 254), (.ref 61)⟩, ⟨(PyData.keyHash P x193), (.str x193 268), (.ref 68)⟩, ⟨(PyData.keyHash P x197), (.str x197 280), (.ref 75)⟩, ⟨(PyData.keyHash P x198), (.str x198 293), (.ref 82)⟩, ⟨(PyData.keyHash P x199), (.str x199 305), (.ref 89)⟩, ⟨(PyData.keyHash P x200), (.str x200 316), (.ref 96)⟩, ⟨(PyData.keyHash P x201), (.str x201 332), (.ref 103)⟩, ⟨(PyData.keyHash P x203), (.str x203 347), (.ref 110)⟩, ⟨(PyData.keyHash P x207), (.str x207 359), (.ref 117)⟩, ⟨(PyData.keyHash P x208), (.str x208 366), (.ref 124)⟩, ⟨(PyData.keyHash P x210), (.str x210 378), (.ref 131)⟩, ⟨(PyData.keyHash P x215), (.str x215 386), (.ref 138)⟩, ⟨(PyData.keyHash P x216), (.str x216 398), (.ref 145)⟩, ⟨(PyData.keyHash P x218), (.str x218 410), (.ref 152)⟩, ⟨(PyData.keyHash P x221), (.str x221 420), (.ref 159)⟩, ⟨(PyData.keyHash P x223), (.str x223 435), (.ref 166)⟩] 31), #[]⟩
def o12_2 (P : Params) : Obj := ⟨.none, none, (.fields #[(HD.i 2), (HD.i 0), (.ref 20), (HD.i 7), (HD.i 0), (.ref 27), (HD.i 11), (HD.i 0), (.ref 34), (HD.i 24), (HD.i 0), (.ref 41), (HD.i 32), (HD.i 0), (.ref 48), (HD.i 38), (HD.i 0), (.ref 53), (HD.i 47), (HD.i 0), (.ref 60), (HD.i 58), (HD.i 0), (.ref 67), (HD.i 68), (HD.i 0), (.ref 74), (HD.i 71), (HD.i 0), (.ref 81), (HD.i 75), (HD.i 0), (.ref 88), (HD.i 78), (HD.i 0), (.ref 95), (HD.i 82), (HD.i 0), (.ref 102), (HD.i 94), (HD.i 0), (.ref 109), (HD.i 115), (HD.i 0), (.ref 116), (HD.i 122), (HD.i 0), (.ref 123), (HD.i 126), (HD.i 0), (.ref 130), (HD.i 138), (HD.i 0), (.ref 137), (HD.i 141), (HD.i 0), (.ref 144), (HD.i 149), (HD.i 0), (.ref 151), (HD.i 155), (HD.i 0), (.ref 158), (HD.i 165), (HD.i 0), (.ref 165)]), #[]⟩
def o90_2 (P : Params) : Obj := ⟨(.type "tuple"), none, (.seq #[] 0), #[]⟩
def o91_2 (P : Params) : Obj := ⟨.none, none, (.fields #[]), #[]⟩
def o92_2 (P : Params) : Obj := ⟨(.type "tuple"), none, (.seq #[(.str x181 309), (.str x182 310), (.str x194 311), (.str x190 312), (.str x191 313)] 0), #[]⟩
def o93_2 (P : Params) : Obj := ⟨(.type "tuple"), none, (.seq #[] 0), #[]⟩
def o94_2 (P : Params) : Obj := ⟨.none, none, (.func ⟨x200, x200, L2.defArgs (ht 14), .stmts (L2.defBody (ht 14)), L2.defScope (ht 14), 0, [], .none, .none, .none, .none, none, .none, .none, 0⟩), #[]⟩
def o95_2 (P : Params) : Obj := ⟨(.type "code"), none, (.fields #[(.str x200 306), (.str x200 307), (.str x164 308), (HD.i 78), (HD.i 5), (HD.i 0), (HD.i 0), (HD.i 3), (.ref 90), (.bool true), (HD.i 181), (.ref 91), .none, (.ref 92), (.ref 93), (.ref 94), (HD.i 314), (HD.i 78), (.str x164 315)]), #[]⟩
def o96_2 (P : Params) : Obj := ⟨(.type "function"), none, (.func ⟨x200, x200, L2.defArgs (ht 14), .stmts (L2.defBody (ht 14)), L2.defScope (ht 14), 3, [], .none, .none, .none, (.str x179 218), none, (.ref 95), .none, 0⟩), #[]⟩
def o97_2 (P : Params) : Obj := ⟨(.type "tuple"), none, (.seq #[] 0), #[]⟩
def o98_2 (P : Params) : Obj := ⟨.none, none, (.fields #[]), #[]⟩
def o99_2 (P : Params) : Obj := ⟨(.type "tuple"), none, (.seq #[(.str x181 320), (.str x182 321), (.str x194 322), (.str x190 323), (.str x191 324), (.str x192 325), (.str x187 326), (.str x196 327), (.str x195 328), (.str x202 329)] 0), #[]⟩
def o100_2 (P : Params) : Obj := ⟨(.type "tuple"), none, (.seq #[] 0), #[]⟩
def o101_2 (P : Params) : Obj := ⟨.none, none, (.func ⟨x201, x201, L2.defArgs (ht 15), .stmts (L2.defBody (ht 15)), L2.defScope (ht 15), 0, [], .none, .none, .none, .none, none, .none, .none, 0⟩), #[]⟩
def o102_2 (P : Params) : Obj := ⟨(.type "code"), none, (.fields #[(.str x201 317), (.str x201 318), (.str x164 319), (HD.i 82), (HD.i 6), (HD.i 0), (HD.i 0), (HD.i 3), (.ref 97), (.bool true), (HD.i 181), (.ref 98), .none, (.ref 99), (.ref 100), (.ref 101), (HD.i 330), (HD.i 82), (.str x164 331)]), #[]⟩
def o103_2 (P : Params) : Obj := ⟨(.type "function"), none, (.func ⟨x201, x201, L2.defArgs (ht 15), .stmts (L2.defBody (ht 15)), L2.defScope (ht 15), 3, [], .none, .none, .none, (.str x179 218), none, (.ref 102), .none, 0⟩), #[]⟩
def o104_2 (P : Params) : Obj := ⟨(.type "tuple"), none, (.seq #[] 0), #[]⟩
def o105_2 (P : Params) : Obj := ⟨.none, none, (.fields #[]), #[]⟩
def o106_2 (P : Params) : Obj := ⟨(.type "tuple"), none, (.seq #[(.str x181 336), (.str x182 337), (.str x194 338), (.str x190 339), (.str x191 340), (.str x192 341), (.str x204 342), (.str x205 343), (.str x206 344)] 0), #[]⟩
def o107_2 (P : Params) : Obj := ⟨(.type "tuple"), none, (.seq #[] 0), #[]⟩
def o108_2 (P : Params) : Obj := ⟨.none, none, (.func ⟨x203, x203, L2.defArgs (ht 16), .stmts (L2.defBody (ht 16)), L2.defScope (ht 16), 0, [], .none, .none, .none, .none, none, .none, .none, 0⟩), #[]⟩
def o109_2 (P : Params) : Obj := ⟨(.type "code"), none, (.fields #[(.str x203 333), (.str x203 334), (.str x164 335), (HD.i 94), (HD.i 6), (HD.i 0), (HD.i 0), (HD.i 3), (.ref 104), (.bool true), (HD.i 181), (.ref 105), .none, (.ref 106), (.ref 107), (.ref 108), (HD.i 345), (HD.i 94), (.str x164 346)]), #[]⟩
def o110_2 (P : Params) : Obj := ⟨(.type "function"), none, (.func ⟨x203, x203, L2.defArgs (ht 16), .stmts (L2.defBody (ht 16)), L2.defScope (ht 16), 3, [], .none, .none, .none, (.str x179 218), none, (.ref 109), .none, 0⟩), #[]⟩
def o111_2 (P : Params) : Obj := ⟨(.type "tuple"), none, (.seq #[] 0), #[]⟩
def o112_2 (P : Params) : Obj := ⟨.none, none, (.fields #[]), #[]⟩
def o113_2 (P : Params) : Obj := ⟨(.type "tuple"), none, (.seq #[(.str x181 351), (.str x182 352), (.str x194 353), (.str x190 354), (.str x191 355), (.str x192 356)] 0), #[]⟩
def o114_2 (P : Params) : Obj := ⟨(.type "tuple"), none, (.seq #[] 0), #[]⟩
def o115_2 (P : Params) : Obj := ⟨.none, none, (.func ⟨x207, x207, L2.defArgs (ht 17), .stmts (L2.defBody (ht 17)), L2.defScope (ht 17), 0, [], .none, .none, .none, .none, none, .none, .none, 0⟩), #[]⟩
def o116_2 (P : Params) : Obj := ⟨(.type "code"), none, (.fields #[(.str x207 348), (.str x207 349), (.str x164 350), (HD.i 115), (HD.i 5), (HD.i 0), (HD.i 0), (HD.i 3), (.ref 111), (.bool true), (HD.i 181), (.ref 112), .none, (.ref 113), (.ref 114), (.ref 115), (HD.i 357), (HD.i 115), (.str x164 358)]), #[]⟩
def o117_2 (P : Params) : Obj := ⟨(.type "function"), none, (.func ⟨x207, x207, L2.defArgs (ht 17), .stmts (L2.defBody (ht 17)), L2.defScope (ht 17), 3, [], .none, .none, .none, (.str x179 218), none, (.ref 116), .none, 0⟩), #[]⟩
def o118_2 (P : Params) : Obj := ⟨(.type "tuple"), none, (.seq #[] 0), #[]⟩
def o119_2 (P : Params) : Obj := ⟨.none, none, (.fields #[]), #[]⟩
def o120_2 (P : Params) : Obj := ⟨(.type "tuple"), none, (.seq #[(.str x209 363)] 0), #[]⟩
def o121_2 (P : Params) : Obj := ⟨(.type "tuple"), none, (.seq #[] 0), #[]⟩
def o122_2 (P : Params) : Obj := ⟨.none, none, (.func ⟨x208, x208, L2.defArgs (ht 18), .stmts (L2.defBody (ht 18)), L2.defScope (ht 18), 0, [], .none, .none, .none, .none, none, .none, .none, 0⟩), #[]⟩
def o123_2 (P : Params) : Obj := ⟨(.type "code"), none, (.fields #[(.str x208 360), (.str x208 361), (.str x164 362), (HD.i 122), (HD.i 1), (HD.i 0), (HD.i 0), (HD.i 3), (.ref 118), (.bool true), (HD.i 181), (.ref 119), .none, (.ref 120), (.ref 121), (.ref 122), (HD.i 364), (HD.i 122), (.str x164 365)]), #[]⟩
def o124_2 (P : Params) : Obj := ⟨(.type "function"), none, (.func ⟨x208, x208, L2.defArgs (ht 18), .stmts (L2.defBody (ht 18)), L2.defScope (ht 18), 3, [], .none, .none, .none, (.str x179 218), none, (.ref 123), .none, 0⟩), #[]⟩
def o125_2 (P : Params) : Obj := ⟨(.type "tuple"), none, (.seq #[] 0), #[]⟩
def o126_2 (P : Params) : Obj := ⟨.none, none, (.fields #[]), #[]⟩
def o127_2 (P : Params) : Obj := ⟨(.type "tuple"), none, (.seq #[(.str x209 370), (.str x211 371), (.str x194 372), (.str x212 373), (.str x213 374), (.str x214 375)] 0), #[]⟩
def o128_2 (P : Params) : Obj := ⟨(.type "tuple"), none, (.seq #[] 0), #[]⟩
def o129_2 (P : Params) : Obj := ⟨.none, none, (.func ⟨x210, x210, L2.defArgs (ht 19), .stmts (L2.defBody (ht 19)), L2.defScope (ht 19), 0, [], .none, .none, .none, .none, none, .none, .none, 0⟩), #[]⟩
def o130_2 (P : Params) : Obj := ⟨(.type "code"), none, (.fields #[(.str x210 367), (.str x210 368), (.str x164 369), (HD.i 126), (HD.i 1), (HD.i 0), (HD.i 0), (HD.i 3), (.ref 125), (.bool true), (HD.i 181), (.ref 126), .none, (.ref 127), (.ref 128), (.ref 129), (HD.i 376), (HD.i 126), (.str x164 377)]), #[]⟩
def o131_2 (P : Params) : Obj := ⟨(.type "function"), none, (.func ⟨x210, x210, L2.defArgs (ht 19), .stmts (L2.defBody (ht 19)), L2.defScope (ht 19), 3, [], .none, .none, .none, (.str x179 218), none, (.ref 130), .none, 0⟩), #[]⟩
def o132_2 (P : Params) : Obj := ⟨(.type "tuple"), none, (.seq #[] 0), #[]⟩
def o133_2 (P : Params) : Obj := ⟨.none, none, (.fields #[]), #[]⟩
def o134_2 (P : Params) : Obj := ⟨(.type "tuple"), none, (.seq #[(.str x209 382), (.str x214 383)] 0), #[]⟩
def o135_2 (P : Params) : Obj := ⟨(.type "tuple"), none, (.seq #[] 0), #[]⟩
def o136_2 (P : Params) : Obj := ⟨.none, none, (.func ⟨x215, x215, L2.defArgs (ht 20), .stmts (L2.defBody (ht 20)), L2.defScope (ht 20), 0, [], .none, .none, .none, .none, none, .none, .none, 0⟩), #[]⟩
def o137_2 (P : Params) : Obj := ⟨(.type "code"), none, (.fields #[(.str x215 379), (.str x215 380), (.str x164 381), (HD.i 138), (HD.i 1), (HD.i 0), (HD.i 0), (HD.i 3), (.ref 132), (.bool true), (HD.i 181), (.ref 133), .none, (.ref 134), (.ref 135), (.ref 136), (HD.i 384), (HD.i 138), (.str x164 385)]), #[]⟩
def o138_2 (P : Params) : Obj := ⟨(.type "function"), none, (.func ⟨x215, x215, L2.defArgs (ht 20), .stmts (L2.defBody (ht 20)), L2.defScope (ht 20), 3, [], .none, .none, .none, (.str x179 218), none, (.ref 137), .none, 0⟩), #[]⟩
def o139_2 (P : Params) : Obj := ⟨(.type "tuple"), none, (.seq #[] 0), #[]⟩
def o140_2 (P : Params) : Obj := ⟨.none, none, (.fields #[]), #[]⟩
def o141_2 (P : Params) : Obj := ⟨(.type "tuple"), none, (.seq #[(.str x181 390), (.str x182 391), (.str x194 392), (.str x190 393), (.str x191 394), (.str x217 395)] 0), #[]⟩
def o142_2 (P : Params) : Obj := ⟨(.type "tuple"), none, (.seq #[] 0), #[]⟩
def o143_2 (P : Params) : Obj := ⟨.none, none, (.func ⟨x216, x216, L2.defArgs (ht 21), .stmts (L2.defBody (ht 21)), L2.defScope (ht 21), 0, [], .none, .none, .none, .none, none, .none, .none, 0⟩), #[]⟩
def o144_2 (P : Params) : Obj := ⟨(.type "code"), none, (.fields #[(.str x216 387), (.str x216 388), (.str x164 389), (HD.i 141), (HD.i 5), (HD.i 0), (HD.i 0), (HD.i 3), (.ref 139), (.bool true), (HD.i 181), (.ref 140), .none, (.ref 141), (.ref 142), (.ref 143), (HD.i 396), (HD.i 141), (.str x164 397)]), #[]⟩
def o145_2 (P : Params) : Obj := ⟨(.type "function"), none, (.func ⟨x216, x216, L2.defArgs (ht 21), .stmts (L2.defBody (ht 21)), L2.defScope (ht 21), 3, [], .none, .none, .none, (.str x179 218), none, (.ref 144), .none, 0⟩), #[]⟩
def o146_2 (P : Params) : Obj := ⟨(.type "tuple"), none, (.seq #[] 0), #[]⟩
def o147_2 (P : Params) : Obj := ⟨.none, none, (.fields #[]), #[]⟩
def o148_2 (P : Params) : Obj := ⟨(.type "tuple"), none, (.seq #[(.str x181 402), (.str x182 403), (.str x191 404), (.str x219 405), (.str x220 406), (.str x196 407)] 0), #[]⟩
def o149_2 (P : Params) : Obj := ⟨(.type "tuple"), none, (.seq #[] 0), #[]⟩
def o150_2 (P : Params) : Obj := ⟨.none, none, (.func ⟨x218, x218, L2.defArgs (ht 22), .stmts (L2.defBody (ht 22)), L2.defScope (ht 22), 0, [], .none, .none, .none, .none, none, .none, .none, 0⟩), #[]⟩
def o151_2 (P : Params) : Obj := ⟨(.type "code"), none, (.fields #[(.str x218 399), (.str x218 400), (.str x164 401), (HD.i 149), (HD.i 3), (HD.i 0), (HD.i 0), (HD.i 3), (.ref 146), (.bool true), (HD.i 181), (.ref 147), .none, (.ref 148), (.ref 149), (.ref 150), (HD.i 408), (HD.i 149), (.str x164 409)]), #[]⟩
def o152_2 (P : Params) : Obj := ⟨(.type "function"), none, (.func ⟨x218, x218, L2.defArgs (ht 22), .stmts (L2.defBody (ht 22)), L2.defScope (ht 22), 3, [], .none, .none, .none, (.str x179 218), none, (.ref 151), .none, 0⟩), #[]⟩
def o153_2 (P : Params) : Obj := ⟨(.type "tuple"), none, (.seq #[] 0), #[]⟩
def o154_2 (P : Params) : Obj := ⟨.none, none, (.fields #[]), #[]⟩
def o155_2 (P : Params) : Obj := ⟨(.type "tuple"), none, (.seq #[(.str x209 414), (.str x219 415), (.str x187 416), (.str x222 417)] 0), #[]⟩
def o156_2 (P : Params) : Obj := ⟨(.type "tuple"), none, (.seq #[] 0), #[]⟩
def o157_2 (P : Params) : Obj := ⟨.none, none, (.func ⟨x221, x221, L2.defArgs (ht 23), .stmts (L2.defBody (ht 23)), L2.defScope (ht 23), 0, [], .none, .none, .none, .none, none, .none, .none, 0⟩), #[]⟩
def o158_2 (P : Params) : Obj := ⟨(.type "code"), none, (.fields #[(.str x221 411), (.str x221 412), (.str x164 413), (HD.i 155), (HD.i 2), (HD.i 0), (HD.i 0), (HD.i 3), (.ref 153), (.bool true), (HD.i 181), (.ref 154), .none, (.ref 155), (.ref 156), (.ref 157), (HD.i 418), (HD.i 155), (.str x164 419)]), #[]⟩
def o159_2 (P : Params) : Obj := ⟨(.type "function"), none, (.func ⟨x221, x221, L2.defArgs (ht 23), .stmts (L2.defBody (ht 23)), L2.defScope (ht 23), 3, [], .none, .none, .none, (.str x179 218), none, (.ref 158), .none, 0⟩), #[]⟩
def o160_2 (P : Params) : Obj := ⟨(.type "tuple"), none, (.seq #[] 0), #[]⟩
def o161_2 (P : Params) : Obj := ⟨.none, none, (.fields #[]), #[]⟩
def o162_2 (P : Params) : Obj := ⟨(.type "tuple"), none, (.seq #[(.str x209 424), (.str x219 425), (.str x224 426), (.str x225 427), (.str x226 428), (.str x227 429), (.str x228 430), (.str x229 431), (.str x230 432)] 0), #[]⟩
def o163_2 (P : Params) : Obj := ⟨(.type "tuple"), none, (.seq #[] 0), #[]⟩
def o164_2 (P : Params) : Obj := ⟨.none, none, (.func ⟨x223, x223, L2.defArgs (ht 24), .stmts (L2.defBody (ht 24)), L2.defScope (ht 24), 0, [], .none, .none, .none, .none, none, .none, .none, 0⟩), #[]⟩
def o165_2 (P : Params) : Obj := ⟨(.type "code"), none, (.fields #[(.str x223 421), (.str x223 422), (.str x164 423), (HD.i 165), (HD.i 2), (HD.i 0), (HD.i 0), (HD.i 3), (.ref 160), (.bool true), (HD.i 181), (.ref 161), .none, (.ref 162), (.ref 163), (.ref 164), (HD.i 433), (HD.i 165), (.str x164 434)]), #[]⟩
def o166_2 (P : Params) : Obj := ⟨(.type "function"), none, (.func ⟨x223, x223, L2.defArgs (ht 24), .stmts (L2.defBody (ht 24)), L2.defScope (ht 24), 3, [], .none, .none, .none, (.str x179 218), none, (.ref 165), .none, 0⟩), #[]⟩
def g2 : List Stmt := [ht 14, ht 15, ht 16, ht 17, ht 18, ht 19, ht 20, ht 21, ht 22, ht 23, ht 24]
def T2 (P : Params) : BT := ((((((((((((((((((((((((((((((((((((((((((((((((((((((((((((((((((((((((((((((((T1 P).ins (nat_lit 3) (o3_2 P)).ins (nat_lit 12) (o12_2 P)).ins (nat_lit 90) (o90_2 P)).ins (nat_lit 91) (o91_2 P)).ins (nat_lit 92) (o92_2 P)).ins (nat_lit 93) (o93_2 P)).ins (nat_lit 94) (o94_2 P)).ins (nat_lit 95) (o95_2 P)).ins (nat_lit 96) (o96_2 P)).ins (nat_lit 97) (o97_2 P)).ins (nat_lit 98) (o98_2 P)).ins (nat_lit 99) (o99_2 P)).ins (nat_lit 100) (o100_2 P)).ins (nat_lit 101) (o101_2 P)).ins (nat_lit 102) (o102_2 P)).ins (nat_lit 103) (o103_2 P)).ins (nat_lit 104) (o104_2 P)).ins (nat_lit 105) (o105_2 P)).ins (nat_lit 106) (o106_2 P)).ins (nat_lit 107) (o107_2 P)).ins (nat_lit 108) (o108_2 P)).ins (nat_lit 109) (o109_2 P)).ins (nat_lit 110) (o110_2 P)).ins (nat_lit 111) (o111_2 P)).ins (nat_lit 112) (o112_2 P)).ins (nat_lit 113) (o113_2 P)).ins (nat_lit 114) (o114_2 P)).ins (nat_lit 115) (o115_2 P)).ins (nat_lit 116) (o116_2 P)).ins (nat_lit 117) (o117_2 P)).ins (nat_lit 118) (o118_2 P)).ins (nat_lit 119) (o119_2 P)).ins (nat_lit 120) (o120_2 P)).ins (nat_lit 121) (o121_2 P)).ins (nat_lit 122) (o122_2 P)).ins (nat_lit 123) (o123_2 P)).ins (nat_lit 124) (o124_2 P)).ins (nat_lit 125) (o125_2 P)).ins (nat_lit 126) (o126_2 P)).ins (nat_lit 127) (o127_2 P)).ins (nat_lit 128) (o128_2 P)).ins (nat_lit 129) (o129_2 P)).ins (nat_lit 130) (o130_2 P)).ins (nat_lit 131) (o131_2 P)).ins (nat_lit 132) (o132_2 P)).ins (nat_lit 133) (o133_2 P)).ins (nat_lit 134) (o134_2 P)).ins (nat_lit 135) (o135_2 P)).ins (nat_lit 136) (o136_2 P)).ins (nat_lit 137) (o137_2 P)).ins (nat_lit 138) (o138_2 P)).ins (nat_lit 139) (o139_2 P)).ins (nat_lit 140) (o140_2 P)).ins (nat_lit 141) (o141_2 P)).ins (nat_lit 142) (o142_2 P)).ins (nat_lit 143) (o143_2 P)).ins (nat_lit 144) (o144_2 P)).ins (nat_lit 145) (o145_2 P)).ins (nat_lit 146) (o146_2 P)).ins (nat_lit 147) (o147_2 P)).ins (nat_lit 148) (o148_2 P)).ins (nat_lit 149) (o149_2 P)).ins (nat_lit 150) (o150_2 P)).ins (nat_lit 151) (o151_2 P)).ins (nat_lit 152) (o152_2 P)).ins (nat_lit 153) (o153_2 P)).ins (nat_lit 154) (o154_2 P)).ins (nat_lit 155) (o155_2 P)).ins (nat_lit 156) (o156_2 P)).ins (nat_lit 157) (o157_2 P)).ins (nat_lit 158) (o158_2 P)).ins (nat_lit 159) (o159_2 P)).ins (nat_lit 160) (o160_2 P)).ins (nat_lit 161) (o161_2 P)).ins (nat_lit 162) (o162_2 P)).ins (nat_lit 163) (o163_2 P)).ins (nat_lit 164) (o164_2 P)).ins (nat_lit 165) (o165_2 P)).ins (nat_lit 166) (o166_2 P))
def lf2 : Life := ⟨[], [], [], 0, [], [], false, #[], [], 0, false, false, false, (.ofNat 0), [(.ofNat 2000), (.ofNat 10), (.ofNat 10)], false, 0, true, [], [], 0, false⟩
abbrev S2 (w : World) (os : OsState) : SharedT := ⟨T2 w.params, nat_lit 167, lf2, Array.mk [], ⟨0, 0, 0, 0⟩, nat_lit 436, os⟩
def q2 (w : World) : (OsState → Option (Flow × SharedT × Code × Pos)) × (OsState → Option (Flow × SharedT × Code × Pos)) := (fun os => segRunT treeTable pw w (nat_lit 11) (some (.ref 6)) (nat_lit 1) (nat_lit 373) (S1 w os) (piecesOf g2 hE hC ⟨75, 0, 77, 112⟩ hB), fun os => some (Flow.next, S2 w os, hC, ⟨165, 0, 175, 21⟩))
theorem q2_eq : HD.seg pw (nat_lit 11) (some (.ref 6)) (nat_lit 373) S1 S2 g2 hE hC ⟨75, 0, 77, 112⟩ ⟨165, 0, 175, 21⟩ hB = q2 := by kernel_rfl
name_quick YK302 for q2 by q2_eq
theorem i2 (w : World) : (Fast.YK302 w).1 = (Fast.YK302 w).2 := by kernel_rfl
theorem h2 : HD.Ok (HD.seg pw (nat_lit 11) (some (.ref 6)) (nat_lit 373) S1 S2 g2 hE hC ⟨75, 0, 77, 112⟩ ⟨165, 0, 175, 21⟩ hB) := HD.by1 Fast.YK302_eq i2
def o3_3 (P : Params) : Obj := ⟨(.type "dict"), none, (.dict #[⟨(PyData.keyHash P x0), (.str x0 165), (.str x179 218)⟩, ⟨(PyData.keyHash P x2), (.str x2 166), .none⟩, ⟨(PyData.keyHash P x3), (.str x3 167), .none⟩, ⟨(PyData.keyHash P x4), (.str x4 168), (.builtin "__main__.__loader__#opaque")⟩, ⟨(PyData.keyHash P x5), (.str x5 169), .none⟩, ⟨(PyData.keyHash P x161), (.str x161 170), (.ref 6)⟩, ⟨(PyData.keyHash P x162), (.str x162 171), (.ref 4)⟩, ⟨(PyData.keyHash P x163), (.str x163 173), (.str x164 172)⟩, ⟨(PyData.keyHash P x165), (.str x165 174), .none⟩, ⟨(PyData.keyHash P x168), (.str x168 195), (.ref 21)⟩, ⟨(PyData.keyHash P x171), (.str x171 205), (.ref 28)⟩, ⟨(PyData.keyHash P x174), (.str x174 217), (.ref 35)⟩, ⟨(PyData.keyHash P x180), (.str x180 230), (.ref 42)⟩, ⟨(PyData.keyHash P x186), (.str x186 237), (.ref 49)⟩, ⟨(PyData.keyHash P x188), (.str x188 243), (.ref 54)⟩, ⟨(PyData.keyHash P x189), (.str x189 254), (.ref 61)⟩, ⟨(PyData.keyHash P x193), (.str x193 268), (.ref 68)⟩, ⟨(PyData.keyHash P x197), (.str x197 280), (.ref 75)⟩, ⟨(PyData.keyHash P x198), (.str x198 293), (.ref 82)⟩, ⟨(PyData.keyHash P x199), (.str x199 305), (.ref 89)⟩, ⟨(PyData.keyHash P x200), (.str x200 316), (.ref 96)⟩, ⟨(PyData.keyHash P x201), (.str x201 332), (.ref 103)⟩, ⟨(PyData.keyHash P x203), (.str x203 347), (.ref 110)⟩, ⟨(PyData.keyHash P x207), (.str x207 359), (.ref 117)⟩, ⟨(PyData.keyHash P x208), (.str x208 366), (.ref 124)⟩, ⟨(PyData.keyHash P x210), (.str x210 378), (.ref 131)⟩, ⟨(PyData.keyHash P x215), (.str x215 386), (.ref 138)⟩, ⟨(PyData.keyHash P x216), (.str x216 398), (.ref 145)⟩, ⟨(PyData.keyHash P x218), (.str x218 410), (.ref 152)⟩, ⟨(PyData.keyHash P x221), (.str x221 420), (.ref 159)⟩, ⟨(PyData.keyHash P x223), (.str x223 435), (.ref 166)⟩, ⟨(PyData.keyHash P x231), (.str x231 445), (.ref 173)⟩, ⟨(PyData.keyHash P x234), (.str x234 453), (.ref 180)⟩, ⟨(PyData.keyHash P x236), (.str x236 464), (.ref 187)⟩, ⟨(PyData.keyHash P x240), (.str x240 480), (.ref 194)⟩, ⟨(PyData.keyHash P x242), (.str x242 487), (.ref 201)⟩, ⟨(PyData.keyHash P x243), (.str x243 496), (.ref 208)⟩, ⟨(PyData.keyHash P x244), (.str x244 505), (.ref 215)⟩, ⟨(PyData.keyHash P x246), (.str x246 524), (.ref 222)⟩] 39), #[]⟩
def o12_3 (P : Params) : Obj := ⟨.none, none, (.fields #[(HD.i 2), (HD.i 0), (.ref 20), (HD.i 7), (HD.i 0), (.ref 27), (HD.i 11), (HD.i 0), (.ref 34), (HD.i 24), (HD.i 0), (.ref 41), (HD.i 32), (HD.i 0), (.ref 48), (HD.i 38), (HD.i 0), (.ref 53), (HD.i 47), (HD.i 0), (.ref 60), (HD.i 58), (HD.i 0), (.ref 67), (HD.i 68), (HD.i 0), (.ref 74), (HD.i 71), (HD.i 0), (.ref 81), (HD.i 75), (HD.i 0), (.ref 88), (HD.i 78), (HD.i 0), (.ref 95), (HD.i 82), (HD.i 0), (.ref 102), (HD.i 94), (HD.i 0), (.ref 109), (HD.i 115), (HD.i 0), (.ref 116), (HD.i 122), (HD.i 0), (.ref 123), (HD.i 126), (HD.i 0), (.ref 130), (HD.i 138), (HD.i 0), (.ref 137), (HD.i 141), (HD.i 0), (.ref 144), (HD.i 149), (HD.i 0), (.ref 151), (HD.i 155), (HD.i 0), (.ref 158), (HD.i 165), (HD.i 0), (.ref 165), (HD.i 176), (HD.i 0), (.ref 172), (HD.i 181), (HD.i 0), (.ref 179), (HD.i 185), (HD.i 0), (.ref 186), (HD.i 192), (HD.i 0), (.ref 193), (HD.i 208), (HD.i 0), (.ref 200), (HD.i 214), (HD.i 0), (.ref 207), (HD.i 218), (HD.i 0), (.ref 214), (HD.i 227), (HD.i 0), (.ref 221)]), #[]⟩
def o167_3 (P : Params) : Obj := ⟨(.type "tuple"), none, (.seq #[] 0), #[]⟩
def o168_3 (P : Params) : Obj := ⟨.none, none, (.fields #[]), #[]⟩
def o169_3 (P : Params) : Obj := ⟨(.type "tuple"), none, (.seq #[(.str x209 439), (.str x226 440), (.str x232 441), (.str x233 442)] 0), #[]⟩
def o170_3 (P : Params) : Obj := ⟨(.type "tuple"), none, (.seq #[] 0), #[]⟩
def o171_3 (P : Params) : Obj := ⟨.none, none, (.func ⟨x231, x231, L2.defArgs (ht 25), .stmts (L2.defBody (ht 25)), L2.defScope (ht 25), 0, [], .none, .none, .none, .none, none, .none, .none, 0⟩), #[]⟩
def o172_3 (P : Params) : Obj := ⟨(.type "code"), none, (.fields #[(.str x231 436), (.str x231 437), (.str x164 438), (HD.i 176), (HD.i 3), (HD.i 0), (HD.i 0), (HD.i 3), (.ref 167), (.bool true), (HD.i 181), (.ref 168), .none, (.ref 169), (.ref 170), (.ref 171), (HD.i 443), (HD.i 176), (.str x164 444)]), #[]⟩
def o173_3 (P : Params) : Obj := ⟨(.type "function"), none, (.func ⟨x231, x231, L2.defArgs (ht 25), .stmts (L2.defBody (ht 25)), L2.defScope (ht 25), 3, [], .none, .none, .none, (.str x179 218), none, (.ref 172), .none, 0⟩), #[]⟩
def o174_3 (P : Params) : Obj := ⟨(.type "tuple"), none, (.seq #[] 0), #[]⟩
def o175_3 (P : Params) : Obj := ⟨.none, none, (.fields #[]), #[]⟩
def o176_3 (P : Params) : Obj := ⟨(.type "tuple"), none, (.seq #[(.str x227 449), (.str x235 450)] 0), #[]⟩
def o177_3 (P : Params) : Obj := ⟨(.type "tuple"), none, (.seq #[] 0), #[]⟩
def o178_3 (P : Params) : Obj := ⟨.none, none, (.func ⟨x234, x234, L2.defArgs (ht 26), .stmts (L2.defBody (ht 26)), L2.defScope (ht 26), 0, [], .none, .none, .none, .none, none, .none, .none, 0⟩), #[]⟩
def o179_3 (P : Params) : Obj := ⟨(.type "code"), none, (.fields #[(.str x234 446), (.str x234 447), (.str x164 448), (HD.i 181), (HD.i 2), (HD.i 0), (HD.i 0), (HD.i 3), (.ref 174), (.bool true), (HD.i 181), (.ref 175), .none, (.ref 176), (.ref 177), (.ref 178), (HD.i 451), (HD.i 181), (.str x164 452)]), #[]⟩
def o180_3 (P : Params) : Obj := ⟨(.type "function"), none, (.func ⟨x234, x234, L2.defArgs (ht 26), .stmts (L2.defBody (ht 26)), L2.defScope (ht 26), 3, [], .none, .none, .none, (.str x179 218), none, (.ref 179), .none, 0⟩), #[]⟩
def o181_3 (P : Params) : Obj := ⟨(.type "tuple"), none, (.seq #[] 0), #[]⟩
def o182_3 (P : Params) : Obj := ⟨.none, none, (.fields #[]), #[]⟩
def o183_3 (P : Params) : Obj := ⟨(.type "tuple"), none, (.seq #[(.str x204 457), (.str x237 458), (.str x238 459), (.str x239 460), (.str x220 461)] 0), #[]⟩
def o184_3 (P : Params) : Obj := ⟨(.type "tuple"), none, (.seq #[] 0), #[]⟩
def o185_3 (P : Params) : Obj := ⟨.none, none, (.func ⟨x236, x236, L2.defArgs (ht 27), .stmts (L2.defBody (ht 27)), L2.defScope (ht 27), 0, [], .none, .none, .none, .none, none, .none, .none, 0⟩), #[]⟩
def o186_3 (P : Params) : Obj := ⟨(.type "code"), none, (.fields #[(.str x236 454), (.str x236 455), (.str x164 456), (HD.i 185), (HD.i 2), (HD.i 0), (HD.i 0), (HD.i 3), (.ref 181), (.bool true), (HD.i 181), (.ref 182), .none, (.ref 183), (.ref 184), (.ref 185), (HD.i 462), (HD.i 185), (.str x164 463)]), #[]⟩
def o187_3 (P : Params) : Obj := ⟨(.type "function"), none, (.func ⟨x236, x236, L2.defArgs (ht 27), .stmts (L2.defBody (ht 27)), L2.defScope (ht 27), 3, [], .none, .none, .none, (.str x179 218), none, (.ref 186), .none, 0⟩), #[]⟩
def o188_3 (P : Params) : Obj := ⟨(.type "tuple"), none, (.seq #[] 0), #[]⟩
def o189_3 (P : Params) : Obj := ⟨.none, none, (.fields #[]), #[]⟩
def o190_3 (P : Params) : Obj := ⟨(.type "tuple"), none, (.seq #[(.str x181 468), (.str x182 469), (.str x209 470), (.str x190 471), (.str x191 472), (.str x238 473), (.str x241 474), (.str x194 475), (.str x232 476), (.str x217 477)] 0), #[]⟩
def o191_3 (P : Params) : Obj := ⟨(.type "tuple"), none, (.seq #[] 0), #[]⟩
def o192_3 (P : Params) : Obj := ⟨.none, none, (.func ⟨x240, x240, L2.defArgs (ht 28), .stmts (L2.defBody (ht 28)), L2.defScope (ht 28), 0, [], .none, .none, .none, .none, none, .none, .none, 0⟩), #[]⟩
def o193_3 (P : Params) : Obj := ⟨(.type "code"), none, (.fields #[(.str x240 465), (.str x240 466), (.str x164 467), (HD.i 192), (HD.i 5), (HD.i 0), (HD.i 0), (HD.i 3), (.ref 188), (.bool true), (HD.i 181), (.ref 189), .none, (.ref 190), (.ref 191), (.ref 192), (HD.i 478), (HD.i 192), (.str x164 479)]), #[]⟩
def o194_3 (P : Params) : Obj := ⟨(.type "function"), none, (.func ⟨x240, x240, L2.defArgs (ht 28), .stmts (L2.defBody (ht 28)), L2.defScope (ht 28), 3, [], .none, .none, .none, (.str x179 218), none, (.ref 193), .none, 0⟩), #[]⟩
def o195_3 (P : Params) : Obj := ⟨(.type "tuple"), none, (.seq #[] 0), #[]⟩
def o196_3 (P : Params) : Obj := ⟨.none, none, (.fields #[]), #[]⟩
def o197_3 (P : Params) : Obj := ⟨(.type "tuple"), none, (.seq #[(.str x183 484)] 0), #[]⟩
def o198_3 (P : Params) : Obj := ⟨(.type "tuple"), none, (.seq #[] 0), #[]⟩
def o199_3 (P : Params) : Obj := ⟨.none, none, (.func ⟨x242, x242, L2.defArgs (ht 29), .stmts (L2.defBody (ht 29)), L2.defScope (ht 29), 0, [], .none, .none, .none, .none, none, .none, .none, 0⟩), #[]⟩
def o200_3 (P : Params) : Obj := ⟨(.type "code"), none, (.fields #[(.str x242 481), (.str x242 482), (.str x164 483), (HD.i 208), (HD.i 1), (HD.i 0), (HD.i 0), (HD.i 3), (.ref 195), (.bool true), (HD.i 181), (.ref 196), .none, (.ref 197), (.ref 198), (.ref 199), (HD.i 485), (HD.i 208), (.str x164 486)]), #[]⟩
def o201_3 (P : Params) : Obj := ⟨(.type "function"), none, (.func ⟨x242, x242, L2.defArgs (ht 29), .stmts (L2.defBody (ht 29)), L2.defScope (ht 29), 3, [], .none, .none, .none, (.str x179 218), none, (.ref 200), .none, 0⟩), #[]⟩
def o202_3 (P : Params) : Obj := ⟨(.type "tuple"), none, (.seq #[] 0), #[]⟩
def o203_3 (P : Params) : Obj := ⟨.none, none, (.fields #[]), #[]⟩
def o204_3 (P : Params) : Obj := ⟨(.type "tuple"), none, (.seq #[(.str x183 491), (.str x209 492), (.str x220 493)] 0), #[]⟩
def o205_3 (P : Params) : Obj := ⟨(.type "tuple"), none, (.seq #[] 0), #[]⟩
def o206_3 (P : Params) : Obj := ⟨.none, none, (.func ⟨x243, x243, L2.defArgs (ht 30), .stmts (L2.defBody (ht 30)), L2.defScope (ht 30), 0, [], .none, .none, .none, .none, none, .none, .none, 0⟩), #[]⟩
def o207_3 (P : Params) : Obj := ⟨(.type "code"), none, (.fields #[(.str x243 488), (.str x243 489), (.str x164 490), (HD.i 214), (HD.i 2), (HD.i 0), (HD.i 0), (HD.i 3), (.ref 202), (.bool true), (HD.i 181), (.ref 203), .none, (.ref 204), (.ref 205), (.ref 206), (HD.i 494), (HD.i 214), (.str x164 495)]), #[]⟩
def o208_3 (P : Params) : Obj := ⟨(.type "function"), none, (.func ⟨x243, x243, L2.defArgs (ht 30), .stmts (L2.defBody (ht 30)), L2.defScope (ht 30), 3, [], .none, .none, .none, (.str x179 218), none, (.ref 207), .none, 0⟩), #[]⟩
def o209_3 (P : Params) : Obj := ⟨(.type "tuple"), none, (.seq #[] 0), #[]⟩
def o210_3 (P : Params) : Obj := ⟨.none, none, (.fields #[]), #[]⟩
def o211_3 (P : Params) : Obj := ⟨(.type "tuple"), none, (.seq #[(.str x224 500), (.str x245 501), (.str x230 502)] 0), #[]⟩
def o212_3 (P : Params) : Obj := ⟨(.type "tuple"), none, (.seq #[] 0), #[]⟩
def o213_3 (P : Params) : Obj := ⟨.none, none, (.func ⟨x244, x244, L2.defArgs (ht 31), .stmts (L2.defBody (ht 31)), L2.defScope (ht 31), 0, [], .none, .none, .none, .none, none, .none, .none, 0⟩), #[]⟩
def o214_3 (P : Params) : Obj := ⟨(.type "code"), none, (.fields #[(.str x244 497), (.str x244 498), (.str x164 499), (HD.i 218), (HD.i 2), (HD.i 0), (HD.i 0), (HD.i 3), (.ref 209), (.bool true), (HD.i 181), (.ref 210), .none, (.ref 211), (.ref 212), (.ref 213), (HD.i 503), (HD.i 218), (.str x164 504)]), #[]⟩
def o215_3 (P : Params) : Obj := ⟨(.type "function"), none, (.func ⟨x244, x244, L2.defArgs (ht 31), .stmts (L2.defBody (ht 31)), L2.defScope (ht 31), 3, [], .none, .none, .none, (.str x179 218), none, (.ref 214), .none, 0⟩), #[]⟩
def o216_3 (P : Params) : Obj := ⟨(.type "tuple"), none, (.seq #[] 0), #[]⟩
def o217_3 (P : Params) : Obj := ⟨.none, none, (.fields #[]), #[]⟩
def o218_3 (P : Params) : Obj := ⟨(.type "tuple"), none, (.seq #[(.str x181 509), (.str x182 510), (.str x191 511), (.str x190 512), (.str x247 513), (.str x194 514), (.str x204 515), (.str x237 516), (.str x192 517), (.str x220 518), (.str x248 519), (.str x183 520), (.str x245 521)] 0), #[]⟩
def o219_3 (P : Params) : Obj := ⟨(.type "tuple"), none, (.seq #[] 0), #[]⟩
def o220_3 (P : Params) : Obj := ⟨.none, none, (.func ⟨x246, x246, L2.defArgs (ht 32), .stmts (L2.defBody (ht 32)), L2.defScope (ht 32), 0, [], .none, .none, .none, .none, none, .none, .none, 0⟩), #[]⟩
def o221_3 (P : Params) : Obj := ⟨(.type "code"), none, (.fields #[(.str x246 506), (.str x246 507), (.str x164 508), (HD.i 227), (HD.i 1), (HD.i 0), (HD.i 0), (HD.i 3), (.ref 216), (.bool true), (HD.i 181), (.ref 217), .none, (.ref 218), (.ref 219), (.ref 220), (HD.i 522), (HD.i 227), (.str x164 523)]), #[]⟩
def o222_3 (P : Params) : Obj := ⟨(.type "function"), none, (.func ⟨x246, x246, L2.defArgs (ht 32), .stmts (L2.defBody (ht 32)), L2.defScope (ht 32), 3, [], .none, .none, .none, (.str x179 218), none, (.ref 221), .none, 0⟩), #[]⟩
def g3 : List Stmt := [ht 25, ht 26, ht 27, ht 28, ht 29, ht 30, ht 31, ht 32]
def T3 (P : Params) : BT := (((((((((((((((((((((((((((((((((((((((((((((((((((((((((((T2 P).ins (nat_lit 3) (o3_3 P)).ins (nat_lit 12) (o12_3 P)).ins (nat_lit 167) (o167_3 P)).ins (nat_lit 168) (o168_3 P)).ins (nat_lit 169) (o169_3 P)).ins (nat_lit 170) (o170_3 P)).ins (nat_lit 171) (o171_3 P)).ins (nat_lit 172) (o172_3 P)).ins (nat_lit 173) (o173_3 P)).ins (nat_lit 174) (o174_3 P)).ins (nat_lit 175) (o175_3 P)).ins (nat_lit 176) (o176_3 P)).ins (nat_lit 177) (o177_3 P)).ins (nat_lit 178) (o178_3 P)).ins (nat_lit 179) (o179_3 P)).ins (nat_lit 180) (o180_3 P)).ins (nat_lit 181) (o181_3 P)).ins (nat_lit 182) (o182_3 P)).ins (nat_lit 183) (o183_3 P)).ins (nat_lit 184) (o184_3 P)).ins (nat_lit 185) (o185_3 P)).ins (nat_lit 186) (o186_3 P)).ins (nat_lit 187) (o187_3 P)).ins (nat_lit 188) (o188_3 P)).ins (nat_lit 189) (o189_3 P)).ins (nat_lit 190) (o190_3 P)).ins (nat_lit 191) (o191_3 P)).ins (nat_lit 192) (o192_3 P)).ins (nat_lit 193) (o193_3 P)).ins (nat_lit 194) (o194_3 P)).ins (nat_lit 195) (o195_3 P)).ins (nat_lit 196) (o196_3 P)).ins (nat_lit 197) (o197_3 P)).ins (nat_lit 198) (o198_3 P)).ins (nat_lit 199) (o199_3 P)).ins (nat_lit 200) (o200_3 P)).ins (nat_lit 201) (o201_3 P)).ins (nat_lit 202) (o202_3 P)).ins (nat_lit 203) (o203_3 P)).ins (nat_lit 204) (o204_3 P)).ins (nat_lit 205) (o205_3 P)).ins (nat_lit 206) (o206_3 P)).ins (nat_lit 207) (o207_3 P)).ins (nat_lit 208) (o208_3 P)).ins (nat_lit 209) (o209_3 P)).ins (nat_lit 210) (o210_3 P)).ins (nat_lit 211) (o211_3 P)).ins (nat_lit 212) (o212_3 P)).ins (nat_lit 213) (o213_3 P)).ins (nat_lit 214) (o214_3 P)).ins (nat_lit 215) (o215_3 P)).ins (nat_lit 216) (o216_3 P)).ins (nat_lit 217) (o217_3 P)).ins (nat_lit 218) (o218_3 P)).ins (nat_lit 219) (o219_3 P)).ins (nat_lit 220) (o220_3 P)).ins (nat_lit 221) (o221_3 P)).ins (nat_lit 222) (o222_3 P))
def lf3 : Life := ⟨[], [], [], 0, [], [], false, #[], [], 0, false, false, false, (.ofNat 0), [(.ofNat 2000), (.ofNat 10), (.ofNat 10)], false, 0, true, [], [], 0, false⟩
abbrev S3 (w : World) (os : OsState) : SharedT := ⟨T3 w.params, nat_lit 223, lf3, Array.mk [], ⟨0, 0, 0, 0⟩, nat_lit 525, os⟩
def q3 (w : World) : (OsState → Option (Flow × SharedT × Code × Pos)) × (OsState → Option (Flow × SharedT × Code × Pos)) := (fun os => segRunT treeTable pw w (nat_lit 11) (some (.ref 6)) (nat_lit 1) (nat_lit 266) (S2 w os) (piecesOf g3 hE hC ⟨165, 0, 175, 21⟩ hB), fun os => some (Flow.next, S3 w os, hC, ⟨227, 0, 253, 115⟩))
theorem q3_eq : HD.seg pw (nat_lit 11) (some (.ref 6)) (nat_lit 266) S2 S3 g3 hE hC ⟨165, 0, 175, 21⟩ ⟨227, 0, 253, 115⟩ hB = q3 := by kernel_rfl
name_quick YK303 for q3 by q3_eq
theorem i3 (w : World) : (Fast.YK303 w).1 = (Fast.YK303 w).2 := by kernel_rfl
theorem h3 : HD.Ok (HD.seg pw (nat_lit 11) (some (.ref 6)) (nat_lit 266) S2 S3 g3 hE hC ⟨165, 0, 175, 21⟩ ⟨227, 0, 253, 115⟩ hB) := HD.by1 Fast.YK303_eq i3
def Hf_0 (P : Params) (r : List (Obj)) : List (Obj) := PySem.W.boot_o_0 P :: PySem.W.boot_o_1 P :: PySem.W.boot_o_2 P :: o3_3 P :: PySem.W.boot_o_4 P :: PySem.W.boot_o_5 P :: PySem.W.boot_o_6 P :: PySem.W.boot_o_7 P :: PySem.W.boot_o_8 P :: PySem.W.boot_o_9 P :: PySem.W.boot_o_10 P :: o11_a P :: r
def Hf_1 (P : Params) (r : List (Obj)) : List (Obj) := o12_3 P :: o13_a P :: o14_a P :: o15_1 P :: o16_1 P :: o17_1 P :: o18_1 P :: o19_1 P :: o20_1 P :: o21_1 P :: o22_1 P :: o23_1 P :: r
def Hf_2 (P : Params) (r : List (Obj)) : List (Obj) := o24_1 P :: o25_1 P :: o26_1 P :: o27_1 P :: o28_1 P :: o29_1 P :: o30_1 P :: o31_1 P :: o32_1 P :: o33_1 P :: o34_1 P :: o35_1 P :: r
def Hf_3 (P : Params) (r : List (Obj)) : List (Obj) := o36_1 P :: o37_1 P :: o38_1 P :: o39_1 P :: o40_1 P :: o41_1 P :: o42_1 P :: o43_1 P :: o44_1 P :: o45_1 P :: o46_1 P :: o47_1 P :: r
def Hf_4 (P : Params) (r : List (Obj)) : List (Obj) := o48_1 P :: o49_1 P :: o50_1 P :: o51_1 P :: o52_1 P :: o53_1 P :: o54_1 P :: o55_1 P :: o56_1 P :: o57_1 P :: o58_1 P :: o59_1 P :: r
def Hf_5 (P : Params) (r : List (Obj)) : List (Obj) := o60_1 P :: o61_1 P :: o62_1 P :: o63_1 P :: o64_1 P :: o65_1 P :: o66_1 P :: o67_1 P :: o68_1 P :: o69_1 P :: o70_1 P :: o71_1 P :: r
def Hf_6 (P : Params) (r : List (Obj)) : List (Obj) := o72_1 P :: o73_1 P :: o74_1 P :: o75_1 P :: o76_1 P :: o77_1 P :: o78_1 P :: o79_1 P :: o80_1 P :: o81_1 P :: o82_1 P :: o83_1 P :: r
def Hf_7 (P : Params) (r : List (Obj)) : List (Obj) := o84_1 P :: o85_1 P :: o86_1 P :: o87_1 P :: o88_1 P :: o89_1 P :: o90_2 P :: o91_2 P :: o92_2 P :: o93_2 P :: o94_2 P :: o95_2 P :: r
def Hf_8 (P : Params) (r : List (Obj)) : List (Obj) := o96_2 P :: o97_2 P :: o98_2 P :: o99_2 P :: o100_2 P :: o101_2 P :: o102_2 P :: o103_2 P :: o104_2 P :: o105_2 P :: o106_2 P :: o107_2 P :: r
def Hf_9 (P : Params) (r : List (Obj)) : List (Obj) := o108_2 P :: o109_2 P :: o110_2 P :: o111_2 P :: o112_2 P :: o113_2 P :: o114_2 P :: o115_2 P :: o116_2 P :: o117_2 P :: o118_2 P :: o119_2 P :: r
def Hf_10 (P : Params) (r : List (Obj)) : List (Obj) := o120_2 P :: o121_2 P :: o122_2 P :: o123_2 P :: o124_2 P :: o125_2 P :: o126_2 P :: o127_2 P :: o128_2 P :: o129_2 P :: o130_2 P :: o131_2 P :: r
def Hf_11 (P : Params) (r : List (Obj)) : List (Obj) := o132_2 P :: o133_2 P :: o134_2 P :: o135_2 P :: o136_2 P :: o137_2 P :: o138_2 P :: o139_2 P :: o140_2 P :: o141_2 P :: o142_2 P :: o143_2 P :: r
def Hf_12 (P : Params) (r : List (Obj)) : List (Obj) := o144_2 P :: o145_2 P :: o146_2 P :: o147_2 P :: o148_2 P :: o149_2 P :: o150_2 P :: o151_2 P :: o152_2 P :: o153_2 P :: o154_2 P :: o155_2 P :: r
def Hf_13 (P : Params) (r : List (Obj)) : List (Obj) := o156_2 P :: o157_2 P :: o158_2 P :: o159_2 P :: o160_2 P :: o161_2 P :: o162_2 P :: o163_2 P :: o164_2 P :: o165_2 P :: o166_2 P :: o167_3 P :: r
def Hf_14 (P : Params) (r : List (Obj)) : List (Obj) := o168_3 P :: o169_3 P :: o170_3 P :: o171_3 P :: o172_3 P :: o173_3 P :: o174_3 P :: o175_3 P :: o176_3 P :: o177_3 P :: o178_3 P :: o179_3 P :: r
def Hf_15 (P : Params) (r : List (Obj)) : List (Obj) := o180_3 P :: o181_3 P :: o182_3 P :: o183_3 P :: o184_3 P :: o185_3 P :: o186_3 P :: o187_3 P :: o188_3 P :: o189_3 P :: o190_3 P :: o191_3 P :: r
def Hf_16 (P : Params) (r : List (Obj)) : List (Obj) := o192_3 P :: o193_3 P :: o194_3 P :: o195_3 P :: o196_3 P :: o197_3 P :: o198_3 P :: o199_3 P :: o200_3 P :: o201_3 P :: o202_3 P :: o203_3 P :: r
def Hf_17 (P : Params) (r : List (Obj)) : List (Obj) := o204_3 P :: o205_3 P :: o206_3 P :: o207_3 P :: o208_3 P :: o209_3 P :: o210_3 P :: o211_3 P :: o212_3 P :: o213_3 P :: o214_3 P :: o215_3 P :: r
def Hf_18 (P : Params) (r : List (Obj)) : List (Obj) := o216_3 P :: o217_3 P :: o218_3 P :: o219_3 P :: o220_3 P :: o221_3 P :: o222_3 P :: r
def Hf (P : Params) : Heap := ⟨Array.mk (Hf_0 P (Hf_1 P (Hf_2 P (Hf_3 P (Hf_4 P (Hf_5 P (Hf_6 P (Hf_7 P (Hf_8 P (Hf_9 P (Hf_10 P (Hf_11 P (Hf_12 P (Hf_13 P (Hf_14 P (Hf_15 P (Hf_16 P (Hf_17 P (Hf_18 P []))))))))))))))))))), ⟨[], [], [], 0, [], [], false, #[], [], 0, false, false, false, (.ofNat 0), [(.ofNat 2000), (.ofNat 10), (.ofNat 10)], false, 0, true, [], [], 0, false⟩⟩
def df : Drawn := ⟨0, 0, 0, 0⟩
def kf : Nat := nat_lit 525
abbrev Sf : World → OsState → Shared := HD.mkS Hf df kf
def qz (w : World) : (OsState → Option Shared) × (OsState → Option Shared) := (fun os => topRun treeTable pw w (nat_lit 11) (some (.ref 6)) (nat_lit 2) (S3 w os).abs (Thread.mk (doneF Flow.next) hC ⟨227, 0, 253, 115⟩ hB), fun os => some (Sf w os))
theorem qz_eq : HD.fin pw (nat_lit 11) (some (.ref 6)) (nat_lit 2) S3 Sf (Thread.mk (doneF Flow.next) hC ⟨227, 0, 253, 115⟩ hB) = qz := by kernel_rfl
name_quick YK30z for qz by qz_eq
theorem iz (w : World) : (Fast.YK30z w).1 = (Fast.YK30z w).2 := by kernel_rfl
theorem hz : HD.Ok (HD.fin pw (nat_lit 11) (some (.ref 6)) (nat_lit 2) S3 Sf (Thread.mk (doneF Flow.next) hC ⟨227, 0, 253, 115⟩ hB)) := HD.by1 Fast.YK30z_eq iz
theorem hsp : behindTheImports pw = (g1 ++ (g2 ++ (g3 ++ ([] : List Stmt)))) := by kernel_rfl
theorem hrun : HD.Goes pw (nat_lit 11) (some (.ref 6)) Sf (nat_lit 12 + (nat_lit 1 + (nat_lit 381 + (nat_lit 373 + (nat_lit 266 + (nat_lit 2)))))) S0 (topStub pw) := HD.g_pre ha (HD.g_blk hsp hb (HD.g_seg h1 (HD.g_seg h2 (HD.g_seg h3 (HD.g_fin (env := hE) hz)))))
def hq : Program := HD.view pw [ht 1, ht 3, ht 4, ht 6, ht 7, ht 8, ht 9, ht 10, ht 11, ht 12, ht 13, ht 14, ht 15, ht 16, ht 17, ht 18, ht 19, ht 20, ht 21, ht 22, ht 23, ht 24, ht 25, ht 26, ht 27, ht 28, ht 29, ht 30, ht 31, ht 32]
def hl : List Str := []
def hK_0 (P : Params) (r : List (Addr × Obj)) : List (Addr × Obj) := (nat_lit 2, PySem.W.boot_o_2 P) :: (nat_lit 3, o3_3 P) :: (nat_lit 15, o15_1 P) :: (nat_lit 17, o17_1 P) :: (nat_lit 18, o18_1 P) :: (nat_lit 20, o20_1 P) :: (nat_lit 21, o21_1 P) :: (nat_lit 22, o22_1 P) :: (nat_lit 24, o24_1 P) :: (nat_lit 25, o25_1 P) :: (nat_lit 27, o27_1 P) :: (nat_lit 28, o28_1 P) :: r
def hK_1 (P : Params) (r : List (Addr × Obj)) : List (Addr × Obj) := (nat_lit 29, o29_1 P) :: (nat_lit 31, o31_1 P) :: (nat_lit 32, o32_1 P) :: (nat_lit 34, o34_1 P) :: (nat_lit 35, o35_1 P) :: (nat_lit 36, o36_1 P) :: (nat_lit 38, o38_1 P) :: (nat_lit 39, o39_1 P) :: (nat_lit 41, o41_1 P) :: (nat_lit 42, o42_1 P) :: (nat_lit 43, o43_1 P) :: (nat_lit 45, o45_1 P) :: r
def hK_2 (P : Params) (r : List (Addr × Obj)) : List (Addr × Obj) := (nat_lit 46, o46_1 P) :: (nat_lit 48, o48_1 P) :: (nat_lit 49, o49_1 P) :: (nat_lit 50, o50_1 P) :: (nat_lit 53, o53_1 P) :: (nat_lit 54, o54_1 P) :: (nat_lit 55, o55_1 P) :: (nat_lit 57, o57_1 P) :: (nat_lit 58, o58_1 P) :: (nat_lit 60, o60_1 P) :: (nat_lit 61, o61_1 P) :: (nat_lit 62, o62_1 P) :: r
def hK_3 (P : Params) (r : List (Addr × Obj)) : List (Addr × Obj) := (nat_lit 64, o64_1 P) :: (nat_lit 65, o65_1 P) :: (nat_lit 67, o67_1 P) :: (nat_lit 68, o68_1 P) :: (nat_lit 69, o69_1 P) :: (nat_lit 71, o71_1 P) :: (nat_lit 72, o72_1 P) :: (nat_lit 74, o74_1 P) :: (nat_lit 75, o75_1 P) :: (nat_lit 76, o76_1 P) :: (nat_lit 78, o78_1 P) :: (nat_lit 79, o79_1 P) :: r
def hK_4 (P : Params) (r : List (Addr × Obj)) : List (Addr × Obj) := (nat_lit 81, o81_1 P) :: (nat_lit 82, o82_1 P) :: (nat_lit 83, o83_1 P) :: (nat_lit 85, o85_1 P) :: (nat_lit 86, o86_1 P) :: (nat_lit 88, o88_1 P) :: (nat_lit 89, o89_1 P) :: (nat_lit 90, o90_2 P) :: (nat_lit 92, o92_2 P) :: (nat_lit 93, o93_2 P) :: (nat_lit 95, o95_2 P) :: (nat_lit 96, o96_2 P) :: r
def hK_5 (P : Params) (r : List (Addr × Obj)) : List (Addr × Obj) := (nat_lit 97, o97_2 P) :: (nat_lit 99, o99_2 P) :: (nat_lit 100, o100_2 P) :: (nat_lit 102, o102_2 P) :: (nat_lit 103, o103_2 P) :: (nat_lit 104, o104_2 P) :: (nat_lit 106, o106_2 P) :: (nat_lit 107, o107_2 P) :: (nat_lit 109, o109_2 P) :: (nat_lit 110, o110_2 P) :: (nat_lit 111, o111_2 P) :: (nat_lit 113, o113_2 P) :: r
def hK_6 (P : Params) (r : List (Addr × Obj)) : List (Addr × Obj) := (nat_lit 114, o114_2 P) :: (nat_lit 116, o116_2 P) :: (nat_lit 117, o117_2 P) :: (nat_lit 118, o118_2 P) :: (nat_lit 120, o120_2 P) :: (nat_lit 121, o121_2 P) :: (nat_lit 123, o123_2 P) :: (nat_lit 124, o124_2 P) :: (nat_lit 125, o125_2 P) :: (nat_lit 127, o127_2 P) :: (nat_lit 128, o128_2 P) :: (nat_lit 130, o130_2 P) :: r
def hK_7 (P : Params) (r : List (Addr × Obj)) : List (Addr × Obj) := (nat_lit 131, o131_2 P) :: (nat_lit 132, o132_2 P) :: (nat_lit 134, o134_2 P) :: (nat_lit 135, o135_2 P) :: (nat_lit 137, o137_2 P) :: (nat_lit 138, o138_2 P) :: (nat_lit 153, o153_2 P) :: (nat_lit 155, o155_2 P) :: (nat_lit 156, o156_2 P) :: (nat_lit 158, o158_2 P) :: (nat_lit 159, o159_2 P) :: (nat_lit 160, o160_2 P) :: r
def hK_8 (P : Params) (r : List (Addr × Obj)) : List (Addr × Obj) := (nat_lit 162, o162_2 P) :: (nat_lit 163, o163_2 P) :: (nat_lit 165, o165_2 P) :: (nat_lit 166, o166_2 P) :: (nat_lit 167, o167_3 P) :: (nat_lit 169, o169_3 P) :: (nat_lit 170, o170_3 P) :: (nat_lit 172, o172_3 P) :: (nat_lit 173, o173_3 P) :: (nat_lit 174, o174_3 P) :: (nat_lit 176, o176_3 P) :: (nat_lit 177, o177_3 P) :: r
def hK_9 (P : Params) (r : List (Addr × Obj)) : List (Addr × Obj) := (nat_lit 179, o179_3 P) :: (nat_lit 180, o180_3 P) :: (nat_lit 181, o181_3 P) :: (nat_lit 183, o183_3 P) :: (nat_lit 184, o184_3 P) :: (nat_lit 186, o186_3 P) :: (nat_lit 187, o187_3 P) :: (nat_lit 188, o188_3 P) :: (nat_lit 190, o190_3 P) :: (nat_lit 191, o191_3 P) :: (nat_lit 193, o193_3 P) :: (nat_lit 194, o194_3 P) :: r
def hK_10 (P : Params) (r : List (Addr × Obj)) : List (Addr × Obj) := (nat_lit 195, o195_3 P) :: (nat_lit 197, o197_3 P) :: (nat_lit 198, o198_3 P) :: (nat_lit 200, o200_3 P) :: (nat_lit 201, o201_3 P) :: (nat_lit 202, o202_3 P) :: (nat_lit 204, o204_3 P) :: (nat_lit 205, o205_3 P) :: (nat_lit 207, o207_3 P) :: (nat_lit 208, o208_3 P) :: (nat_lit 209, o209_3 P) :: (nat_lit 211, o211_3 P) :: r
def hK_11 (P : Params) (r : List (Addr × Obj)) : List (Addr × Obj) := (nat_lit 212, o212_3 P) :: (nat_lit 214, o214_3 P) :: (nat_lit 215, o215_3 P) :: (nat_lit 216, o216_3 P) :: (nat_lit 218, o218_3 P) :: (nat_lit 219, o219_3 P) :: (nat_lit 221, o221_3 P) :: (nat_lit 222, o222_3 P) :: r
def hK0 (P : Params) : List (Addr × Obj) := (hK_0 P (hK_1 P (hK_2 P (hK_3 P (hK_4 P (hK_5 P (hK_6 P (hK_7 P (hK_8 P (hK_9 P (hK_10 P (hK_11 P []))))))))))))
def hK (P : Params) : Frag := (nat_lit 2, PySem.W.boot_o_2 P) :: (nat_lit 3, o3_3 P) :: (nat_lit 15, o15_1 P) :: (nat_lit 17, o17_1 P) :: (nat_lit 18, o18_1 P) :: (nat_lit 20, o20_1 P) :: (nat_lit 21, o21_1 P) :: (nat_lit 22, o22_1 P) :: (nat_lit 24, o24_1 P) :: (nat_lit 25, o25_1 P) :: (nat_lit 27, o27_1 P) :: (nat_lit 28, o28_1 P) :: (nat_lit 29, o29_1 P) :: (nat_lit 31, o31_1 P) :: (nat_lit 32, o32_1 P) :: (nat_lit 34, o34_1 P) :: (nat_lit 35, o35_1 P) :: (nat_lit 36, o36_1 P) :: (nat_lit 38, o38_1 P) :: (nat_lit 39, o39_1 P) :: (nat_lit 41, o41_1 P) :: (nat_lit 42, o42_1 P) :: (nat_lit 43, o43_1 P) :: (nat_lit 45, o45_1 P) :: (nat_lit 46, o46_1 P) :: (nat_lit 48, o48_1 P) :: (nat_lit 49, o49_1 P) :: (nat_lit 50, o50_1 P) :: (nat_lit 53, o53_1 P) :: (nat_lit 54, o54_1 P) :: (nat_lit 55, o55_1 P) :: (nat_lit 57, o57_1 P) :: (nat_lit 58, o58_1 P) :: (nat_lit 60, o60_1 P) :: (nat_lit 61, o61_1 P) :: (nat_lit 62, o62_1 P) :: (nat_lit 64, o64_1 P) :: (nat_lit 65, o65_1 P) :: (nat_lit 67, o67_1 P) :: (nat_lit 68, o68_1 P) :: (nat_lit 69, o69_1 P) :: (nat_lit 71, o71_1 P) :: (nat_lit 72, o72_1 P) :: (nat_lit 74, o74_1 P) :: (nat_lit 75, o75_1 P) :: (nat_lit 76, o76_1 P) :: (nat_lit 78, o78_1 P) :: (nat_lit 79, o79_1 P) :: (nat_lit 81, o81_1 P) :: (nat_lit 82, o82_1 P) :: (nat_lit 83, o83_1 P) :: (nat_lit 85, o85_1 P) :: (nat_lit 86, o86_1 P) :: (nat_lit 88, o88_1 P) :: (nat_lit 89, o89_1 P) :: (nat_lit 90, o90_2 P) :: (nat_lit 92, o92_2 P) :: (nat_lit 93, o93_2 P) :: (nat_lit 95, o95_2 P) :: (nat_lit 96, o96_2 P) :: (nat_lit 97, o97_2 P) :: (nat_lit 99, o99_2 P) :: (nat_lit 100, o100_2 P) :: (nat_lit 102, o102_2 P) :: (nat_lit 103, o103_2 P) :: (nat_lit 104, o104_2 P) :: (nat_lit 106, o106_2 P) :: (nat_lit 107, o107_2 P) :: (nat_lit 109, o109_2 P) :: (nat_lit 110, o110_2 P) :: (nat_lit 111, o111_2 P) :: (nat_lit 113, o113_2 P) :: (nat_lit 114, o114_2 P) :: (nat_lit 116, o116_2 P) :: (nat_lit 117, o117_2 P) :: (nat_lit 118, o118_2 P) :: (nat_lit 120, o120_2 P) :: (nat_lit 121, o121_2 P) :: (nat_lit 123, o123_2 P) :: (nat_lit 124, o124_2 P) :: (nat_lit 125, o125_2 P) :: (nat_lit 127, o127_2 P) :: (nat_lit 128, o128_2 P) :: (nat_lit 130, o130_2 P) :: (nat_lit 131, o131_2 P) :: (nat_lit 132, o132_2 P) :: (nat_lit 134, o134_2 P) :: (nat_lit 135, o135_2 P) :: (nat_lit 137, o137_2 P) :: (nat_lit 138, o138_2 P) :: (nat_lit 153, o153_2 P) :: (nat_lit 155, o155_2 P) :: (nat_lit 156, o156_2 P) :: (nat_lit 158, o158_2 P) :: (nat_lit 159, o159_2 P) :: (nat_lit 160, o160_2 P) :: (nat_lit 162, o162_2 P) :: (nat_lit 163, o163_2 P) :: (nat_lit 165, o165_2 P) :: (nat_lit 166, o166_2 P) :: (nat_lit 167, o167_3 P) :: (nat_lit 169, o169_3 P) :: (nat_lit 170, o170_3 P) :: (nat_lit 172, o172_3 P) :: (nat_lit 173, o173_3 P) :: (nat_lit 174, o174_3 P) :: (nat_lit 176, o176_3 P) :: (nat_lit 177, o177_3 P) :: (nat_lit 179, o179_3 P) :: (nat_lit 180, o180_3 P) :: (nat_lit 181, o181_3 P) :: (nat_lit 183, o183_3 P) :: (nat_lit 184, o184_3 P) :: (nat_lit 186, o186_3 P) :: (nat_lit 187, o187_3 P) :: (nat_lit 188, o188_3 P) :: (nat_lit 190, o190_3 P) :: (nat_lit 191, o191_3 P) :: (nat_lit 193, o193_3 P) :: (nat_lit 194, o194_3 P) :: (nat_lit 195, o195_3 P) :: (nat_lit 197, o197_3 P) :: (nat_lit 198, o198_3 P) :: (nat_lit 200, o200_3 P) :: (nat_lit 201, o201_3 P) :: (nat_lit 202, o202_3 P) :: (nat_lit 204, o204_3 P) :: (nat_lit 205, o205_3 P) :: (nat_lit 207, o207_3 P) :: (nat_lit 208, o208_3 P) :: (nat_lit 209, o209_3 P) :: (nat_lit 211, o211_3 P) :: (nat_lit 212, o212_3 P) :: (nat_lit 214, o214_3 P) :: (nat_lit 215, o215_3 P) :: (nat_lit 216, o216_3 P) :: (nat_lit 218, o218_3 P) :: (nat_lit 219, o219_3 P) :: (nat_lit 221, o221_3 P) :: (nat_lit 222, o222_3 P) :: []
def hA : List Addr := [nat_lit 2, nat_lit 3, nat_lit 15, nat_lit 17, nat_lit 18, nat_lit 20, nat_lit 21, nat_lit 22, nat_lit 24, nat_lit 25, nat_lit 27, nat_lit 28, nat_lit 29, nat_lit 31, nat_lit 32, nat_lit 34, nat_lit 35, nat_lit 36, nat_lit 38, nat_lit 39, nat_lit 41, nat_lit 42, nat_lit 43, nat_lit 45, nat_lit 46, nat_lit 48, nat_lit 49, nat_lit 50, nat_lit 53, nat_lit 54, nat_lit 55, nat_lit 57, nat_lit 58, nat_lit 60, nat_lit 61, nat_lit 62, nat_lit 64, nat_lit 65, nat_lit 67, nat_lit 68, nat_lit 69, nat_lit 71, nat_lit 72, nat_lit 74, nat_lit 75, nat_lit 76, nat_lit 78, nat_lit 79, nat_lit 81, nat_lit 82, nat_lit 83, nat_lit 85, nat_lit 86, nat_lit 88, nat_lit 89, nat_lit 90, nat_lit 92, nat_lit 93, nat_lit 95, nat_lit 96, nat_lit 97, nat_lit 99, nat_lit 100, nat_lit 102, nat_lit 103, nat_lit 104, nat_lit 106, nat_lit 107, nat_lit 109, nat_lit 110, nat_lit 111, nat_lit 113, nat_lit 114, nat_lit 116, nat_lit 117, nat_lit 118, nat_lit 120, nat_lit 121, nat_lit 123, nat_lit 124, nat_lit 125, nat_lit 127, nat_lit 128, nat_lit 130, nat_lit 131, nat_lit 132, nat_lit 134, nat_lit 135, nat_lit 137, nat_lit 138, nat_lit 153, nat_lit 155, nat_lit 156, nat_lit 158, nat_lit 159, nat_lit 160, nat_lit 162, nat_lit 163, nat_lit 165, nat_lit 166, nat_lit 167, nat_lit 169, nat_lit 170, nat_lit 172, nat_lit 173, nat_lit 174, nat_lit 176, nat_lit 177, nat_lit 179, nat_lit 180, nat_lit 181, nat_lit 183, nat_lit 184, nat_lit 186, nat_lit 187, nat_lit 188, nat_lit 190, nat_lit 191, nat_lit 193, nat_lit 194, nat_lit 195, nat_lit 197, nat_lit 198, nat_lit 200, nat_lit 201, nat_lit 202, nat_lit 204, nat_lit 205, nat_lit 207, nat_lit 208, nat_lit 209, nat_lit 211, nat_lit 212, nat_lit 214, nat_lit 215, nat_lit 216, nat_lit 218, nat_lit 219, nat_lit 221, nat_lit 222]
def hX (s : Shared) : Bool := xlAt hq [] s && recOk [] s
abbrev hH : Hook := kHook hK hA (fun _ => by kernel_rfl)
def qs (w : World) : (OsState → (Bool × Nat × Option Value)) × (OsState → (Bool × Nat × Option Value)) := (fun os => ((boot_heap w.params).isNs mainGlobals && (Array.mk [] : Array GenState).size == 0, (boot_heap w.params).objs.size, (boot_heap w.params).nsMap mainGlobals "__annotations__"), fun os => (true, (nat_lit 11), (some (.ref 6))))
theorem qs_eq : HD.sz (nat_lit 11) (some (.ref 6)) = qs := by kernel_rfl
name_quick YK30s for qs by qs_eq
theorem is (w : World) : (Fast.YK30s w).1 = (Fast.YK30s w).2 := by kernel_rfl
theorem hs : HD.Ok (HD.sz (nat_lit 11) (some (.ref 6))) := HD.by1 Fast.YK30s_eq is
def qla (w : World) : (OsState → Bool) × (OsState → Bool) := (fun os => (staticsOk (importedModules pw.main.body) (boot_heap w.params) (Hf w.params) && namesBound pw (Hf w.params) && gensDone (Sf w os) && laidKept (boot_heap w.params) (Hf w.params)), fun os => true)
theorem qla_eq : HD.la pw Hf df kf = qla := by kernel_rfl
name_quick YK30la for qla by qla_eq
theorem ila (w : World) : (Fast.YK30la w).1 = (Fast.YK30la w).2 := by kernel_rfl
theorem hla : HD.Ok (HD.la pw Hf df kf) := HD.by1 Fast.YK30la_eq ila
def qlb (w : World) := ((fun os : OsState => openSeen hq hl (importedModules pw.main.body) hX true (Sf w os)), (fun _ : OsState => openGood hq hl))
theorem qlb_eq : HD.lb pw hq hl hX Hf df kf = qlb := by kernel_rfl
name_quick YK30lb for qlb by qlb_eq
theorem ilb (w : World) : (Fast.YK30lb w).1 = (Fast.YK30lb w).2 := by kernel_rfl
theorem hlb : HD.Ok (HD.lb pw hq hl hX Hf df kf) := HD.by1 Fast.YK30lb_eq ilb
def qlc (w : World) : (OsState → (List (Option Obj))) × (OsState → (List (Option Obj))) := (fun os => hA.map (Sf w os).heap.get?, fun os => (hK0 w.params).map fun p => some p.2)
theorem qlc_eq : HD.lc hH Hf df kf = qlc := by kernel_rfl
name_quick YK30lc for qlc by qlc_eq
theorem ilc (w : World) : (Fast.YK30lc w).1 = (Fast.YK30lc w).2 := by kernel_rfl
theorem hlc : HD.Ok (HD.lc hH Hf df kf) := HD.by1 Fast.YK30lc_eq ilc
theorem hleft : LeftO pw hq hl hX hH.obs hH.val 2160 := HD.left (by kernel_rfl) (by decide) (fun s => by kernel_rfl) hs hrun (by decide +kernel) hla hlb hlc
end K30
end
open PySem PySem.W PyProof.Rows
set_option maxRecDepth 100000 in
set_option maxHeartbeats 0 in
theorem PySem.Challenge.cw_keeper_k30_parting_holds : PySem.Challenge.rw_keeper_k30_parting.Holds := by
  w_on; o_law
  refine PySem.W.holds_open (q := K30.hq) (loose := K30.hl) (Xt := K30.hX) (XP := PySem.W.XL K30.hq []) (Yf := PySem.W.Hook.obs K30.hH) (Ya := PySem.W.Hook.val K30.hH) (YP := PySem.W.Hook.says K30.hH) (N := 2160) K30.hleft (PySem.W.Hook.of _) (PySem.W.Hook.keeps _) (fun s e => PySem.W.xl_of s (Bool.and_eq_true_iff.mp e).1) PySem.W.XL.keeps (by rfl) (by rfl) (by rfl) (fun s e => PySem.W.recFacts_of (Bool.and_eq_true_iff.mp e).2) (by rfl) (by assumption) (by decide +kernel) ⟨rfl, rfl, rfl, rfl, rfl, by decide +kernel⟩ ?hw ?hc
  case hw => w_witness2
  delta K30.hH
  k_fill
  refine K30.walk (l := PySem.Challenge.rw_keeper_k30_parting) rfl rfl (fun w h Y => PySem.W.kIn_of Y) ?F
  case F =>
    intro w mg fa h KX G hmg
    have T : ∃ t, K30.Txt (L2.KOf KX) mg t := by
      dsimp only [L2.KOf]
      refine' K30.txt_mk KX G ?a0 ?a1 ?a2 ?a3 ?a4 ?a5 ?a6 ?a7 ?a8 ?a9 ?a10 ?a11 ?a12 ?a13 ?a14 ?a15 ?a16 ?a17 ?a18 ?a19 ?a20 ?a21 ?a22 ?a23 ?a24 ?a25 ?a26 ?a27 ?z_bool ?z_enumerate ?z_int ?z_isinstance ?z_len ?z_list ?z_max ?z_min ?z_range ?z_tuple ?z_zip
      (case a0 => apply L3.dfi; iterate 4 k_is)
      (case a1 => apply L3.dfi; iterate 4 k_is)
      (case a2 => apply L3.dfi; iterate 4 k_is)
      (case a3 => apply L3.dfi; iterate 4 k_is)
      (case a4 => apply L3.dfi; iterate 4 k_is)
      (case a5 => apply L3.dfi; iterate 4 k_is)
      (case a6 => apply L3.dfi; iterate 4 k_is)
      (case a7 => apply L3.dfi; iterate 4 k_is)
      (case a8 => apply L3.dfi; iterate 4 k_is)
      (case a9 => apply L3.dfi; iterate 4 k_is)
      (case a10 => apply L3.dfi; iterate 4 k_is)
      (case a11 => apply L3.dfi; iterate 4 k_is)
      (case a12 => apply L3.dfi; iterate 4 k_is)
      (case a13 => apply L3.dfi; iterate 4 k_is)
      (case a14 => apply L3.dfi; iterate 4 k_is)
      (case a15 => apply L3.dfi; iterate 4 k_is)
      (case a16 => apply L3.dfi; iterate 4 k_is)
      (case a17 => apply L3.dfi; iterate 4 k_is)
      (case a18 => apply L3.dfi; iterate 4 k_is)
      (case a19 => apply L3.dfi; iterate 4 k_is)
      (case a20 => apply L3.dfi; iterate 4 k_is)
      (case a21 => apply L3.dfi; iterate 4 k_is)
      (case a22 => apply L3.dfi; iterate 4 k_is)
      (case a23 => apply L3.dfi; iterate 4 k_is)
      (case a24 => apply L3.dfi; iterate 4 k_is)
      (case a25 => apply L3.dfi; iterate 4 k_is)
      (case a26 => apply L3.dfi; iterate 4 k_is)
      (case a27 => apply L3.dfi; iterate 4 k_is)
      (case z_bool => k_is)
      (case z_enumerate => k_is)
      (case z_int => k_is)
      (case z_isinstance => k_is)
      (case z_len => k_is)
      (case z_list => k_is)
      (case z_max => k_is)
      (case z_min => k_is)
      (case z_range => k_is)
      (case z_tuple => k_is)
      (case z_zip => k_is)
    obtain ⟨t, T⟩ := T
    exact K30.fin T hmg
