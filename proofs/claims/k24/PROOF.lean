import PyProof.Rows.All
import Wide.All
import OpenK.AllK
import Wide.FinOn
import Lean
import PyProof.EqAt
import PyProof.EqKinds
import PyProof.TupleCall
import PyProof.ZipIter
import PyProof.Draws
import PyProof.TupleIter
import PySem.Value
import PyProof.NeKinds
import PyProof.ExcClass2
import PyProof.StationsW
import OpenK.KOwn
import KE.KIsAll
import PyProof.RulesAs
import PyProof.NsDelKeeps
import PyProof.PassesOwn
import PyProof.ExcArgsOwn
import PyProof.IsiH_list
import PyProof.EnumMake
import PyProof.EnumFor
import PyProof.WalksEnum
import PyProof.Rows.EnumRows
import PyProof.SumWalk
import PyProof.StrCalls
import PyProof.Rows.StrJoin2
import PyProof.WalkInts
import KE.KDictOf
import KE.KEqDict
import PyProof.EqLayable
import PyProof.P3Eq
import PyProof.MeetsIn
import KE.KNest
import KE.KNestM
import PyProof.StrCalls6
import PyProof.StrLaws
import PyProof.StrLawsIn
import PyProof.StrLawsChain
import PyProof.MeetsStr2
import PyProof.StrOps2
import PyProof.CallStr
import KE.KIntText
import KE.KRevIter
import PyProof.Rows.StrInSeq3
import PyProof.Rows.SeqMore2
import PySem.Challenge.RW_keeper_k24_walked
set_option Elab.async false
set_option linter.all false
set_option maxRecDepth 100000
set_option bootstrap.genMatcherCode false
set_option genSizeOf false
set_option genSizeOfSpec false
set_option maxHeartbeats 8000000
open PySem renaming wpAny_bind->az,wpAny_pure->bA,wpAny_field->fw,wpAny_holding->kf,wpAny_mono->gg,wpAny_call_entry->qU
open PySem.Heap renaming get?_push_of_some->cf,lt_size->b_,get?_push_size->gj,get?_update_other->k9,get?_update_self->Cc
open List renaming getElem?_eq_getElem->dD,length_cons->bS,size_toArray->c8,mem_cons_of_mem->eA,length_map->cV,length_append->dZ,length_nil->dg,mem_cons_self->eD,mem_append_right->jR,map_cons->ff,length_take->iu,getElem?_map->jP,length_drop->jf,mem_append_left->oU,mem_of_getElem?->qO,replicate->jQ,lookup_cons->nQ,append_nil->lV,getElem?_append_left->EZ,not_mem_nil->pj,map_append->mH,mem_cons->kZ
open Bool renaming and_eq_true->cW,false_ne_true->fg
open Nat renaming le_refl->bN,lt_of_lt_of_le->gP,le_trans->dJ,ne_of_lt->eN,zero_le->fW
noncomputable section
section
namespace L2
open PySem PySem.Spec PyProof.Rows
theorem c7{n:Nat}(h:Nat.ble n 16777216=true):n<=sizeLine:=dJ (Nat.le_of_ble_eq_true h) (by decide)
def HB(base:Heap)(A:Around):Prop:=A.handled=none\/∃a oe vs,A.handled=some (.ref a)/\base.get? a=some oe/\oe.data= .fields vs/\vs[2]?=some .none
def HBp(base:Heap)(pn:List (Addr×Obj))(A:Around):Prop:=A.handled=none\/∃a oe vs,A.handled=some (.ref a)/\(base.get? a=some oe\/(a,oe)∈pn)/\oe.data= .fields vs/\vs[2]?=some .none
theorem HB.toP{base:Heap}{pn:List (Addr×Obj)}{A:Around}(h:HB base A):HBp base pn A:=by
 rcases h with h|⟨a,oe,vs,e1,e2,e3⟩;·exact .inl h
 ·exact .inr ⟨a,oe,vs,e1, .inl e2,e3⟩
theorem Dd:entryFor table "proto.unchain"=some Builtin.«proto.unchain»:=entryFor_of_tree (by kernel_rfl)
section
variable{prog:Program}{w:World}{A:Around}{E:Value->Shared->Prop}{s:Shared}{base:Heap}
theorem HB.mono{h h':Heap}(hb:HB h A)(b:∀a o,A.handled=some (.ref a)->h.get? a=some o->h'.get? a=some o):HB h' A:=by
 rcases hb with hb|⟨a,oe,vs,e1,e2,e3⟩;·exact .inl hb
 ·exact .inr ⟨a,oe,vs,e1,b a oe e1 e2,e3⟩
theorem ES{n a:Addr}{oe:Obj}{vs:Array Value}{Q:Value->Shared->Prop}(b:s.heap.get? a=some oe)(hd:oe.data= .fields vs)(h2:vs[2]?=some .none)(h:Q .none s):wpAny (model prog w) A (runValue (.builtin "proto.unchain" ⟨[.ref n, .ref a, .ref a, .bool false],[]⟩)) Q E s:=by refine wpAny_runValue (codeAny_builtin Dd ?_);show wpAny _ _ (field (.ref a) 2>>=_) _ _ s;refine az (fw b hd h2 ?_);rw[if_pos (show(Value.none==Value.none)=true by rfl)];exact bA h
theorem kQ{f:Type}{Q:f->Shared->Prop}(hb:HB s.heap A)(d:∀h' e,(∀b o,s.heap.get? b=some o->h'.get? b=some o)->(∃o,h'.get? e=some o/\o.cls= .type "StopIteration")->E (.ref e) {s with heap:=h'}):wpAny (model prog w) A (newExc (.type "StopIteration") []>>=λe=>(raiseNew e:Sem f)) Q E s:=by
 refine az ?_;simp only[newExc,newTuple];refine az (wpAny_newObj_type ?_ (by size_fits));refine az (m:=firstArgMember _ _) (wpAny_of_eq (a:=Value.none) (by first|rfl|(simp only[firstArgMember];rfl)) ?_);refine wpAny_newObj_type ?_ (by size_fits);simp only[raiseNew];refine az (wpAny_handled ?_);rcases hb with hb|⟨a,oe,vs,hb,e1,e2,e3⟩;·rw[hb];refine az (bA (wpAny_throw (d _ _ (λb o e=>cf _ (cf _ e)) ⟨_,gj _ rfl,rfl⟩)))
 ·rw[hb];have c:=e1;have lt:=b_ c;have ne:a≠(s.heap.push {cls:= .type "tuple",data:= .seq #[]}).objs.size:=by rw[Heap.size_push];exact eN (Nat.lt_succ_of_lt lt)
  dsimp only;rw[if_pos (by simpa using ne)];refine az (kf (ES (cf _ (cf _ c)) e2 e3 ?_));refine az ?_;show wpAny (model prog w) A (setField (.ref _) 2 (.ref a)) _ _ _;refine wpAny_setField (gj _ rfl) rfl (by simp;lia) (wpAny_throw (d _ _ (λb o e=>?_) ⟨_,Cc _ (gj _ rfl) (Obj.isFreed_of_fields (Obj.data_mapFields rfl _)),Obj.cls_mapFields _ _⟩));rw[k9 _ _ ?_];·exact cf _ (cf _ e)
  ·have :=b_ e;intro z;rw[<-z,Heap.size_push]at this;exact Nat.not_succ_lt_self this
theorem Bc{Q:Bool->Shared->Prop}{h':Heap}{e:Addr}(a:∃o,h'.get? e=some o/\o.cls= .type "StopIteration")(h:Q true {s with heap:=h'}):wpAny (model prog w) A (isInstance (.ref e) (.type "StopIteration")) Q E {s with heap:=h'}:=by obtain⟨o,c,hc⟩:=a;exact wpAny_isInstance (T:="StopIteration") (b:=true) ⟨o,c,hc⟩ isSubtype_stop h
theorem HB.upd{it:Addr}{f:Obj->Obj}(hb:HB s.heap A)(b:∀a,A.handled=some (.ref a)->a≠it):HB (s.heap.update it f) A:=hb.mono λa o e1 e2=>(k9 _ _ (Ne.symm (b a e1))).trans e2
theorem A6{it:Addr}{f:Obj->Obj}{h':Heap}(k:∀b o,(s.heap.update it f).get? b=some o->h'.get? b=some o):Heap.ExtBut it s.heap h':=λb o hb e=>k b o ((k9 _ _ (Ne.symm hb)).trans e)
theorem ll{it l:Addr}{i:Nat}{items:Array Value}{Q:Option Value->Shared->Prop}(hb:HB s.heap A)(j:∀a,A.handled=some (.ref a)->a≠it)(b:s.heap.IsListIter it l i)(hl:s.heap.IsList l items)(h:items[i]?=none)(d:∀h',Heap.ExtBut it s.heap h'->Q none {s with heap:=h'}):wpAny (model prog w) A (pyNext (.ref it)) Q E s:=by obtain⟨o,c,hc,hd⟩:=id b;obtain⟨n,g,_,m,hdl⟩:=hl;unfold pyNext;refine az (wpAny_attempt (wpAny_callSpecial?_slot (name:=Str.ofString "__next__") b.typeIs slot_listiter_next (qU slot_listiter_next b.typeIs entry_listiter_next ?_ (args_listiter_next _))));show wpAny (model prog w) _ (field (.ref it) 0>>=_) _ _ s;refine az (fw c hd (x:= .ref l) rfl ?_);show wpAny (model prog w) _ (if(Value.ref l==Value.none)=true then _ else _) _ _ s;rw[if_neg (show¬(Value.ref l==Value.none)=true from fg)];show wpAny (model prog w) _ (field (.ref it) 1>>=_) _ _ s;refine az (fw c hd (x:= .int i 0) rfl ?_);show wpAny (model prog w) _ (seqItems? (.ref l)>>=_) _ _ s;refine az (wpAny_seqItems g hdl ?_);simp only[Int.toNat_natCast,h];refine az (wpAny_rule (az (wpAny_setField c hd (by simp) ?_)));exact kQ (A:=A.in1) (hb.upd j) λh' e k f=>az (Bc f (bA (d h' (A6 k))))
theorem next_tuple_end{it l:Addr}{i:Nat}{items:Array Value}{Q:Option Value->Shared->Prop}(hb:HB s.heap A)(j:∀a,A.handled=some (.ref a)->a≠it)(b:s.heap.IsTupleIter it l i)(hl:s.heap.IsTuple l items)(h:items[i]?=none)(d:∀h',Heap.ExtBut it s.heap h'->Q none {s with heap:=h'}):wpAny (model prog w) A (pyNext (.ref it)) Q E s:=by obtain⟨o,c,hc,hd⟩:=id b;obtain⟨n,g,_,m,hdl⟩:=hl;unfold pyNext;refine az (wpAny_attempt (wpAny_callSpecial?_slot (name:=Str.ofString "__next__") b.typeIs F.slot_tuple_iterator_next (qU F.slot_tuple_iterator_next b.typeIs F.entry_tuple_iterator_next ?_ (F.args_tuple_iterator_next_1 _))));show wpAny (model prog w) _ (field (.ref it) 0>>=_) _ _ s;refine az (fw c hd (x:= .ref l) rfl ?_);show wpAny (model prog w) _ (if(Value.ref l==Value.none)=true then _ else _) _ _ s;rw[if_neg (show¬(Value.ref l==Value.none)=true from fg)];show wpAny (model prog w) _ (field (.ref it) 1>>=_) _ _ s;refine az (fw c hd (x:= .int i 0) rfl ?_);show wpAny (model prog w) _ (seqItems? (.ref l)>>=_) _ _ s;refine az (wpAny_seqItems g hdl ?_);simp only[Int.toNat_natCast,h];refine az (wpAny_rule (az (wpAny_setField c hd (by simp) ?_)));exact kQ (A:=A.in1) (hb.upd j) λh' e k f=>az (Bc f (bA (d h' (A6 k))))
theorem yo{it:Addr}{x left step:Int}{Q:Option Value->Shared->Prop}(hb:HB s.heap A)(a:IsRangeIter s.heap it x left step)(hleft:left<=0)(f:∀h',Heap.ExtBut it s.heap h'->Q none {s with heap:=h'}):wpAny (model prog w) A (pyNext (.ref it)) Q E s:=by have c:s.TypeIs (.ref it) "range_iterator":=⟨_,a,rfl⟩;unfold pyNext;refine az (wpAny_attempt (wpAny_callSpecial?_slot (name:=Str.ofString "__next__") c F.slot_range_iterator_next (qU F.slot_range_iterator_next c F.entry_range_iterator_next ?_ (F.args_range_iterator_next_1 _))));show wpAny (model prog w) _ (field (.ref it) 0>>=_) _ _ s;refine az (fw a rfl (x:=rawInt x) rfl ?_);show wpAny (model prog w) _ (field (.ref it) 1>>=_) _ _ s;refine az (fw a rfl (x:=rawInt left) rfl ?_);show wpAny (model prog w) _ (field (.ref it) 2>>=_) _ _ s;refine az (fw a rfl (x:=rawInt step) rfl ?_);show wpAny (model prog w) _ (if left<=0 then _ else _) _ _ s;rw[if_pos hleft];refine az (wpAny_rule ?_);refine az ?_;exact kQ (A:=A.in1) hb λh' e k g=>az (Bc g (bA (f h' λb o _ d=>k b o d)))
theorem Tz{t:Addr}{items:Array Value}{Q:List Value->Shared->Prop}(hb:HB s.heap A)(ht:s.heap.IsTuple t items)(i:∀h',Heap.ExtBut s.heap.objs.size s.heap h'->Q items.toList {s with heap:=h'}):wpAny (model prog w) A (unpackItems (.ref t) items.size none) Q E s:=by
 have f:t≠s.heap.objs.size:=by obtain⟨o,m,_⟩:=ht;exact eN (b_ m)
 have g:∀a,A.handled=some (.ref a)->a≠s.heap.objs.size:=λa c=>by
  rcases hb with hb|⟨q,oe,vs,e1,e2,_⟩;·rw[hb]at c;cases c
  ·rw[e1]at c;cases c;exact eN (b_ e2)
 unfold unpackItems;refine az ?_;unfold notIterableAtAll;refine az (wpAny_specialOf ht.typeIs F.slot_tuple_iter.lookup (bA ?_));simp only[Bool.false_eq_true,if_false];refine az (kf (wpAny_pyIter_tuple ht ?_));refine az (kf (wpAny_draw_tuple f items.size 0 _ _ ⟨_,gj _ rfl,rfl,rfl⟩ (ht.push _) (by lia) λh₁ l d=>?_));rw[show List.take items.size (List.drop 0 items.toList)=items.toList by rw[List.drop_zero];exact List.take_of_length_le (by simp),if_neg (by simp)];have n:h₁.IsTuple t items:=(ht.push _).extBut d.extBut f;have j:HB h₁ A:=hb.mono λa o c h=>d.extBut a o (g a c) (cf _ h);refine az (kf (next_tuple_end (s:={s with heap:=h₁}) j g l n (by simp) λp k=>?_));simp only[Option.isSome_none,Bool.false_eq_true,if_false];exact bA (i p λb o hb e=>k b o hb (d.extBut b o hb (cf _ e)))
theorem SR{env:Env}{elts:List Expr}{c}{b:Pos}{t:Addr}{items:Array Value}{Q:Unit->Shared->Prop}(hb:HB s.heap A)(ht:s.heap.IsTuple t items)(hn:(assignEach elts env).length=items.size)(a:(assignEach elts env).findIdx? (·.1)=none)(h:∀h',Heap.ExtBut s.heap.objs.size s.heap h'->wpAny (model prog w) A (assignInOrder ((assignEach elts env).map (·.2)) items.toList) Q E {s with heap:=h'}):wpAny (model prog w) A (assign (.Tuple elts c b) env (.ref t)) Q E s:=by rw[arm_assign_Tuple];refine az (wpAny_standAt ?_);unfold unpack;rw[hn,a];exact az (kf (Tz hb ht h))
end
theorem Gi{prog:Program}{w:World}{A:Around}{s:Shared}{Q:Option Value->Shared->Prop}{E:Value->Shared->Prop}{I:Addr}{a c:Int}{n i:Nat}(hi:i<n)(st:IsRangeIter s.heap I (a+(i:Nat)*c) ((n:Int)-(i:Nat)) c)(d:∀v h' tk,(∃t,v= .int (a+i*c) t)->IsRangeIter h' I (a+((i+1:Nat):Int)*c) ((n:Int)-((i+1:Nat):Int)) c->(∀b o,b∉[I]->s.heap.get? b=some o->h'.get? b=some o)->Q (some v) {s with heap:=h',toks:=tk}):wpAny (model prog w) A (pyNext (.ref I)) Q E s:=by refine wpAny_pyNext_range_item st (by lia) λh' f g=>d _ h' _ ⟨_,rfl⟩ ?_ λb o hb e=>g.extBut b o (λh=>hb (by simp[h])) e;rw[show a+((i+1:Nat):Int)*c=a+(i:Int)*c+c by push_cast;rw[Int.add_mul,Int.one_mul,Int.add_assoc],show(n:Int)-((i+1:Nat):Int)=(n:Int)-(i:Int)-1 by push_cast;lia];exact f
noncomputable def pq(A:Around):List Addr:=match A.handled with|some (.ref a)=>[a]|_=>[]
theorem yR{A:Around}{d:Addr}(h:d∈pq A):A.handled=some (.ref d):=by
 unfold pq at h;split at h;·rename_i a e;rw[List.mem_singleton.mp h];exact e
 ·cases h
theorem HB.frame{A:Around}{h h':Heap}(hb:HB h A)(k:∀b∈pq A,∀o,h.get? b=some o->h'.get? b=some o):HB h' A:=hb.mono λa o c d=>k a (by unfold pq;rw[c];simp) o d
theorem Gq{prog:Program}{w:World}{A:Around}(I c:Addr)(p:c≠I)(items:Array Value)(j:∀a,A.handled=some (.ref a)->a≠I):Walks prog w A I (I::c::pq A) [I] items.size (λi v=>items[i]?=some v) (λi h=>h.IsListIter I c i/\h.IsList c items/\HB h A)where
 sub:=λb hb=>by simp at hb;simp[hb]
 frame:=λ_ _ _ st f=>⟨st.1.at λo e=>f I (by simp) o e,st.2.1.at λo e=>f c (by simp) o e,st.2.2.frame λb hb=>f b (by simp[hb])⟩;item:=λi s Q E hi st d=>by refine wpAny_pyNext_list_item st.1 st.2.1 (x:=items[i]) (by simp[hi]) λh' n g=>?_;exact d _ h' s.toks (by simp[hi]) ⟨n,st.2.1.extBut g.extBut p,st.2.2.mono λa o k l=>g.extBut a o (j a k) l⟩ λb o hb e=>g.extBut b o (λh=>hb (by simp[h])) e
 done:=λs Q E st d=>ll st.2.2 j st.1 st.2.1 (by simp) λh' m=>d h' s.toks λb o hb e=>m b o (λh=>hb (by simp[h])) e;self:=λ_ _ _ _ st d=>wpAny_pyIter_listiter st.1 d
noncomputable abbrev Key:=Sum Int Str
noncomputable def Ac:Key->Value->Bool| .inl k,v=>Value.isInt k v| .inr x,v=>Value.isStrOf x v
noncomputable def ad3(w:World):Key->Int| .inl k=>hashInt k| .inr x=>hashStr w x
theorem cX:∀{k:Key}{v:Value},Ac k v=true->(∃i t,k=Sum.inl i/\v=Value.int i t)\/(∃x t,k=Sum.inr x/\v=Value.str x t)| .inl i,v,h=>by obtain⟨t,e⟩:=Value.isInt_shape (k:=i) (v:=v) h;exact .inl ⟨i,t,rfl,e⟩| .inr x,v,h=>by obtain⟨t,e⟩:=Value.isStrOf_shape (x:=x) (v:=v) h;exact .inr ⟨x,t,rfl,e⟩
theorem MB(i:Int)(t:Tok):Ac (.inl i) (.int i t)=true:=by simp[Ac,Value.isInt]
theorem MS(x:Str)(t:Tok):Ac (.inr x) (.str x t)=true:=by simp[Ac,Value.isStrOf]
theorem ZE(a b:Int):decide ((Sum.inl a:Key)=Sum.inl b)=(a==b):=by
 by_cases e:a=b;·subst e;simp
 ·have h:¬(Sum.inl a:Key)=Sum.inl b:=λq=>e (Sum.inl.inj q);rw[decide_eq_false h];exact(beq_eq_false_iff_ne.mpr e).symm
theorem W_(a b:Str):decide ((Sum.inr a:Key)=Sum.inr b)=decide (a=b):=by
 by_cases e:a=b;·subst e;simp
 ·have h:¬(Sum.inr a:Key)=Sum.inr b:=λq=>e (Sum.inr.inj q);rw[decide_eq_false h,decide_eq_false e]
theorem ZI(a:Int)(b:Str):decide ((Sum.inl a:Key)=Sum.inr b)=false:=decide_eq_false (λq=>nomatch q)
theorem ZP(a:Str)(b:Int):decide ((Sum.inr a:Key)=Sum.inl b)=false:=decide_eq_false (λq=>nomatch q)
noncomputable def dn(prog:Program)(w:World):PySem.KeyKind prog w Key where
 is:=Ac;hash:=ad3 w;inj:=λv a b ha hb=>by
  rcases cX ha with⟨i,t,rfl,rfl⟩|⟨x,t,rfl,rfl⟩
  ·rcases cX hb with⟨j,u,rfl,e⟩|⟨y,u,rfl,e⟩;·injection e with e1 _;rw[e1]
   ·exact nomatch e
  ·rcases cX hb with⟨j,u,rfl,e⟩|⟨y,u,rfl,e⟩;·exact nomatch e
   ·injection e with e1 _;rw[e1]
 byValue:=λk v h=>by rcases cX h with⟨i,t,rfl,rfl⟩|⟨x,t,rfl,rfl⟩<;>rfl
 pyHash:=λc h=>by
  rcases cX c with⟨i,t,rfl,rfl⟩|⟨x,t,rfl,rfl⟩;·exact wpAny_pyHash_int h
  ·exact wpAny_pyHash_str h
 eqBool:=λd c h=>by
  rcases cX d with⟨i,t,rfl,rfl⟩|⟨x,t,rfl,rfl⟩
  ·rcases cX c with⟨j,u,rfl,rfl⟩|⟨y,u,rfl,rfl⟩;·rw[ZE]at h;exact wpAny_eqBool_int h
   ·rw[ZI]at h;exact SeqAt.EqAt.int_str i t y u _ _ _ _ h
  ·rcases cX c with⟨j,u,rfl,rfl⟩|⟨y,u,rfl,rfl⟩;·rw[ZP]at h;exact SeqAt.EqAt.str_int x t j u _ _ _ _ h
   ·rw[W_]at h;exact wpAny_eqBool_str h
 «strs»:=λk x t v h=>by
  rcases cX h with⟨i,u,rfl,e⟩|⟨y,u,rfl,e⟩;·exact nomatch e
  ·injection e with e1 _;subst e1;cases v<;>rfl
theorem E2(prog:Program)(w:World)(i:Int)(t:Tok):(dn prog w).is (.inl i) (.int i t)=true:=MB i t
theorem C8(prog:Program)(w:World)(x:Str)(t:Tok):(dn prog w).is (.inr x) (.str x t)=true:=MS x t
inductive V where|a_|bl(b:Bool)|int(i:Int)|str(x:Str)|Nd(b:Array UInt8)|Yp(b:UInt64)|ref(a:Addr)|ty(n:String)deriving DecidableEq
noncomputable def RelV:V->Value->Prop| .a_,u=>u=Value.none| .bl b,u=>u=Value.bool b| .int i,u=>∃t,u=Value.int i t| .str x,u=>∃t,u=Value.str x t| .Nd b,u=>∃t,u=Value.bytes b t| .Yp b,u=>∃t,u=Value.float b t| .ref a,u=>u=Value.ref a| .ty n,u=>u=Value.type n
noncomputable abbrev Vals:List V->List Value->Prop:=Paired RelV
theorem Vals.length{xs:List V}{us:List Value}(r:Vals xs us):xs.length=us.length:=Paired.length r
theorem Vals.get:∀{xs:List V}{us:List Value}{i:Nat}{x:V},Vals xs us->xs[i]?=some x->∃u,us[i]?=some u/\RelV x u|_,_,_,_, .nil,e=>by simp at e|_,_,0,_, .cons r _,e=>by simp at e;subst e;exact⟨_,rfl,r⟩|_,_,i+1,x, .cons _ t,e=>by obtain⟨u,h1,h2⟩:=Vals.get (i:=i) (x:=x) t (by simpa using e);exact⟨u,by simpa using h1,h2⟩
theorem Vals.set{x:V}{u:Value}(r:RelV x u):∀{xs:List V}{us:List Value}(i:Nat),Vals xs us->Vals (xs.set i x) (us.set i u)|_,_,_, .nil=> .nil|_,_,0, .cons _ t=> .cons r t|_,_,i+1, .cons q t=> .cons q (Vals.set r i t)
theorem Vals.append:∀{xs a:List V}{us ws:List Value},Vals xs us->Vals a ws->Vals (xs++a) (us++ws)|_,_,_,_, .nil,s=>s|_,_,_,_, .cons r t,s=> .cons r (Vals.append t s)
theorem Vals.take:∀{xs:List V}{us:List Value}(n:Nat),Vals xs us->Vals (xs.take n) (us.take n)|_,_,0,_=> .nil|_,_,_+1, .nil=> .nil|_,_,n+1, .cons r t=> .cons r (Vals.take n t)
theorem Vals.drop:∀{xs:List V}{us:List Value}(n:Nat),Vals xs us->Vals (xs.drop n) (us.drop n)|_,_,0,r=>r|_,_,_+1, .nil=> .nil|_,_,n+1, .cons _ t=>Vals.drop n t
noncomputable def ze:Option V->Option Value->Prop|some v,some u=>RelV v u|none,none=>True|_,_=>False
noncomputable def KV{a:Type}:List (a×V)->List (a×Value)->Prop:=Paired λ(p:a×V)(q:a×Value)=>p.1=q.1/\RelV p.2 q.2
noncomputable def kV:Key->V| .inl i=> .int i| .inr x=> .str x
inductive Sl where|tab(q:Str)(ln cl:Value)|code(q:Str)
inductive HO where/--a list -/|lst(xs:List V)/--a tuple (never changes) -/|tup(xs:List V)/--a dict whose keys are ints and texts; one whose keys are tuples of ints and texts (the empty one is both) -/|dK(aF:List (Key×V))|dT(aF:List (List Key×V))/--a set of ints: its members, its size -/|set(S:Int->Bool)(n:Nat)/--an instance of the class at C, its dict at dx, its attributes -/|ins(C dx:Addr)(fs:List (Str×V))/--the dict of the instance at x -/|own(x:Addr)/--the dict of an exception -/|xd(fs:List (Str×V))/--a bound method, f of x -/|met(f x:Addr)/--a range object lo, lo + 1, .. below hi -/|rng(lo hi:Int)/--a thing that is known to the object (the script; a dict while a loop walks it): read, never written while it is so -/|Fs(o:Obj)(u:HO)/--a code object's table -/|zf(ps:Sl)/--any other thing, by what is true of its one object (a def of one's own: SetO a S n := HO.ext fun h => ..) -/|ext(φ:Heap->Prop)
noncomputable abbrev Hp:=Addr->Option HO
noncomputable def upd(H:Hp)(a:Addr)(o:HO):Hp:=λb=>if b=a then some o else H b
theorem aj{H:Hp}{a:Addr}{o:HO}:upd H a o a=some o:=by unfold upd;rw[if_pos rfl]
theorem aY{H:Hp}{a b:Addr}{o:HO}(h:b≠a):upd H a o b=H b:=by unfold upd;rw[if_neg h]
theorem TV{H:Hp}{a:Addr}{o u:HO}:upd (upd H a o) a u=upd H a u:=by funext b;unfold upd;split<;>rfl
theorem WH{H:Hp}{a b:Addr}{o u:HO}(h:H a=some o)(h':H b=some u)(d:o≠u):a≠b:=by intro e;subst e;rw[h]at h';exact d (Option.some.inj h')
theorem aZ{H:Hp}{a b:Addr}{o:HO}(h:H a=some o)(h':H b=none):a≠b:=by intro e;subst e;rw[h]at h';cases h'
section
variable(P:Program)(w:World)
noncomputable def cK(H:Hp)(h:Heap)(a:Addr):HO->Prop| .lst xs=>xs.length<=sizeLine/\∃(b:List Value)(n:Nat),Vals xs b/\h.get? a=some {cls:= .type "list",data:= .seq b.toArray n}| .tup xs=>xs.length<=sizeLine/\∃b:List Value,Vals xs b/\IsTup h a b.toArray| .dK aF=>aF.length<=sizeLine/\(a==sysModules)=false/\∃vs,KV aF vs/\h.DictOf (dn P w) a vs| .dT aF=>aF.length<=sizeLine/\(a==sysModules)=false/\∃xs:List (List Key×Addr×Value),Paired (λ(p:List Key×V)(q:List Key×Addr×Value)=>p.1=q.1/\H q.2.1=some (.tup (p.1.map kV))/\RelV p.2 q.2.2) aF xs/\∃o es ep,h.get? a=some o/\o.ExactDict/\o.data= .dict es ep/\es.toList=xs.map (entryOfKey (tupleKind (dn P w)))/\(xs.map (·.1)).Nodup| .set S n=>h.SetOf (intKind P w) a S n| .ins C dx fs=>H dx=some (.own a)/\fs.length<=1000/\dx≠a/\h.get? a=some (PySem.W.instObj C dx)/\∃mA,h.Ns1 dx mA/\(∀f,ze (fs.lookup f) (mA f))/\PySem.Within mA (fs.map (·.1))| .own _=>∃o,h.get? a=some o| .xd fs=>∃mA,h.Ns1 a mA/\∀f,ze (fs.lookup f) (mA f)| .rng lo hi=>∃t u v,h.get? a=some {cls:= .type "range",data:= .fields #[.int lo t, .int hi u, .int 1 v]}| .Fs o u=>h.get? a=some o/\cK H h a u| .zf (.tab q ln cl)=>h.get? a=some {cls:= .none,data:= .fields #[]}\/∃c,h.get? a=some {cls:= .none,data:= .fields #[ln,cl, .ref c]}/\H c=some (.zf (.code q))| .zf (.code q)=>h.CodeRec (.ref a) q| .met f x=>h.get? a=some (PySem.W.methodObj (.ref f) (.ref x))| .ext φ=>φ h/\(∃o,h.get? a=some o)/\∀h1 h2:Heap,φ h1->(∀o,h1.get? a=some o->h2.get? a=some o)->φ h2
def jS(H:Hp)(h:Heap):Prop:=∀a o,H a=some o->cK P w H h a o
end
section
variable{P:Program}{w:World}{H H':Hp}{h h':Heap}{a:Addr}{o:HO}
theorem cK.lt(x:cK P w H h a o):a<h.objs.size:=by
 cases o with
  |lst xs=>obtain⟨_,_,_,_,e⟩:=x;exact b_ e
  |tup xs=>obtain⟨_,_,_,p⟩:=x;exact p.lt
  |dK aF=>obtain⟨_,_,_,_,o,_,_,e,_⟩:=x;exact b_ e
  |dT aF=>obtain⟨_,_,_,_,o,_,_,e,_⟩:=x;exact b_ e
  |set S n=>obtain⟨o,_,_,_,e,_⟩:=x;exact b_ e
  |ins C dx fs=>obtain⟨_,_,_,e,_⟩:=x;exact b_ e
  |own y=>obtain⟨_,e⟩:=x;exact b_ e
  |xd fs=>obtain⟨_,⟨_,_,_,e,_⟩,_⟩:=x;exact b_ e
  |rng lo hi=>obtain⟨_,_,_,e⟩:=x;exact b_ e
  |Fs ob u=>obtain⟨e,_⟩:=x;exact b_ e
  |zf ps=>cases ps with|tab q ln cl=>rcases x with e|⟨c,e,_⟩<;>exact b_ e|code q=>obtain⟨c,o,vs,t,e1,e2,_⟩:=x;cases e1;exact b_ e2
  |met f y=>exact b_ (show h.get? a=some _ from x)
  |ext φ=>obtain⟨_,⟨_,e⟩,_⟩:=x;exact b_ e
theorem Paired.X4{e g:Type}{F G:e->g->Prop}:∀{c:List e}{d:List g},Paired F c d->(∀a b,F a b->G a b)->Paired G c d|_,_, .nil,_=> .nil|_,_, .cons r t,f=> .cons (f _ _ r) (Paired.X4 t f)
noncomputable def Fix:HO->Prop| .tup _=>True| .zf _=>True|_=>False
noncomputable abbrev acX:={u:HO//Fix u}
theorem cK.xm(x:cK P w H h a o)(k:∀b u,(b=a\/H b=some (.own a))->h.get? b=some u->h'.get? b=some u)(i:∀b,H b=some (.own a)->H' b=some (.own a))(ht:∀(b:Addr)(u:acX),H b=some u.1->H' b=some u.1):cK P w H' h' a o:=by
 induction o with
  |lst xs=>obtain⟨z,g,n,r,e⟩:=x;exact⟨z,g,n,r,k _ _ (.inl rfl) e⟩
  |tup xs=>obtain⟨z,g,r,ob,e,c⟩:=x;exact⟨z,g,r,ob,k _ _ (.inl rfl) e,c⟩
  |dK aF=>obtain⟨z,y,vs,r,ob,es,ep,e,c⟩:=x;exact⟨z,y,vs,r,ob,es,ep,k _ _ (.inl rfl) e,c⟩
  |dT aF=>obtain⟨z,y,xs,r,ob,es,ep,e,c⟩:=x;exact⟨z,y,xs,Paired.X4 r λp q z=>⟨z.1,ht _ ⟨.tup _,trivial⟩ z.2.1,z.2.2⟩,ob,es,ep,k _ _ (.inl rfl) e,c⟩
  |set S n=>obtain⟨ob,es,ep,t,e,c⟩:=x;exact⟨ob,es,ep,t,k _ _ (.inl rfl) e,c⟩
  |ins C dx fs=>obtain⟨d,z,ne,e,mA,⟨od,es,ep,e2,c⟩,r⟩:=x;exact⟨i _ d,z,ne,k _ _ (.inl rfl) e,mA,⟨od,es,ep,k _ _ (.inr d) e2,c⟩,r⟩
  |own y=>obtain⟨ob,e⟩:=x;exact⟨ob,k _ _ (.inl rfl) e⟩
  |xd fs=>obtain⟨mA,⟨od,es,ep,e,c⟩,r⟩:=x;exact⟨mA,⟨od,es,ep,k _ _ (.inl rfl) e,c⟩,r⟩
  |rng lo hi=>obtain⟨t,u,v,e⟩:=x;exact⟨t,u,v,k _ _ (.inl rfl) e⟩
  |Fs ob u j=>obtain⟨e,q⟩:=x;exact⟨k _ _ (.inl rfl) e,j q⟩
  |zf ps=>
   cases ps with
    |tab q ln cl=>
     rcases x with e|⟨c,e,r⟩;·exact .inl (k a _ (.inl rfl) e)
     ·exact .inr ⟨c,k a _ (.inl rfl) e,ht c ⟨.zf (.code q),trivial⟩ r⟩
    |code q=>obtain⟨c,o,vs,t,e1,e2,e3⟩:=x;cases e1;exact⟨_,o,vs,t,rfl,k a _ (.inl rfl) e2,e3⟩
  |met f y=>have e:h.get? a=some (PySem.W.methodObj (.ref f) (.ref y)):=x;show h'.get? a=some (PySem.W.methodObj (.ref f) (.ref y));exact k a _ (.inl rfl) e
  |ext φ=>obtain⟨p,⟨o,e⟩,st⟩:=x;exact⟨st _ _ p λo q=>k _ _ (.inl rfl) q,⟨o,k _ _ (.inl rfl) e⟩,st⟩
theorem jS.lt(x:jS P w H h)(e:H a=some o):a<h.objs.size:=(x a o e).lt
theorem jS.fresh(x:jS P w H h)(e:h.objs.size<=a):H a=none:=by cases q:H a with|none=>rfl|some u=>exact absurd (gP (x.lt q) e) (Nat.lt_irrefl _)
theorem jS.kept(x:jS P w H h)(k:∀b u,h.get? b=some u->h'.get? b=some u):jS P w H h':=λa o e=>(x a o e).xm (λb u _ q=>k b u q) (λ_ q=>q) λ_ _ q=>q
theorem jS.laid(x:jS P w H h)(k:∀b u,h.get? b=some u->h'.get? b=some u)(d:h.objs.size<=a)(new:cK P w (upd H a o) h' a o):jS P w (upd H a o) h':=λb u e=>by
 have hn:=x.fresh d;by_cases hb:b=a;·subst hb;rw[aj]at e;cases e;exact new
 ·rw[aY hb]at e;exact(x b u e).xm (λc v _ q=>k c v q) (λc q=>by rw[aY (aZ q hn)];exact q) λc xs q=>by rw[aY (aZ q hn)];exact q
end
def Rd(H:Hp)(a:Addr)(u:HO):Prop:=H a=some u\/∃o,H a=some (.Fs o u)
theorem Rd.ok{P:Program}{w:World}{H:Hp}{h:Heap}{a:Addr}{u:HO}(r:Rd H a u)(x:jS P w H h):cK P w H h a u:=by
 rcases r with r|⟨o,r⟩;·exact x a u r
 ·obtain⟨_,q⟩:=x a _ r;exact q
noncomputable def Mut:Option HO->Prop|some (.lst _)=>True|some (.dK _)=>True|some (.dT _)=>True|some (.set _ _)=>True|some (.ins _ _ _)=>True|some (.ext _)=>True|_=>False
section
variable{P:Program}{w:World}{H:Hp}{h h':Heap}{x e:Addr}{o':HO}
theorem jS.write(ok:jS P w H h)(d:Mut (H x))(g:e=x\/H e=some (.own x))(k:∀b u,b≠e->h.get? b=some u->h'.get? b=some u)(l:∃u,h'.get? e=some u)(new:cK P w (upd H x o') h' x o'):jS P w (upd H x o') h':=λb u q=>by
 have i:∀c y,H c=some (.own y)->c≠x:=λc y r z=>by subst z;rw[r]at d;exact d
 have n:∀(c:Addr)(u:acX),H c=some u.1->c≠x:=λc⟨u,f⟩r z=>by subst z;rw[show H c=some u from r]at d;cases u<;>first|exact d|exact f
 by_cases hb:b=x;·subst hb;rw[aj]at q;cases q;exact new
 ·rw[aY hb]at q;by_cases a:b=e
  ·have j:H b=some (.own x):=by
    rcases g with z|z;·exact absurd (a.trans z) hb
    ·rw[a];exact z
   rw[q]at j;cases j;obtain⟨v,m⟩:=l;exact⟨v,by rw[a];exact m⟩
  ·refine(ok b u q).xm (λc v hc r=>k c v ?_ r) (λc r=>by rw[aY (i c b r)];exact r) λc xs r=>by rw[aY (n c xs r)];exact r
   rcases hc with rfl|hc;·exact a
   ·rintro rfl;rcases g with z|z;·exact i c b hc z
    ·rw[hc]at z;cases z;exact hb rfl
end
structure Un(fs ex:List Addr)(H H':Hp)(h h':Heap):Prop where
 keep:∀b o,h.get? b=some o->H b=none->b∉fs->b∉ex->h'.get? b=some o
 slot:∀b o,h.get? b=some o->H b=none->b∈fs->b∉ex->∃sl,h'.get? b=some {o with slots:=sl}
 free:∀b o,h.get? b=some o->H b=none->b∉ex->H' b=none
 there:∀b o,h.get? b=some o->b∉ex->∃o',h'.get? b=some o'
 yk:∀b xs,H b=some (.tup xs)->H' b=some (.tup xs)
 qR:∀b o u,H b=some (.Fs o u)->H' b=some (.Fs o u)
 qS:∀b ps,H b=some (.zf ps)->H' b=some (.zf ps)
section
variable{fs fs' ex ex':List Addr}{H H1 H2:Hp}{h h1 h2 h':Heap}{a x e:Addr}{o:HO}
theorem Un.any(u:Un fs ex H H1 h h1){b:Addr}{ob:Obj}(q:h.get? b=some ob)(n:H b=none)(c:b∉ex):∃sl,h1.get? b=some {ob with slots:=sl}:=by
 by_cases hb:b∈fs;·exact u.slot b ob q n hb c
 ·exact⟨ob.slots,u.keep b ob q n hb c⟩
theorem Un.kept(k:∀b u,h.get? b=some u->h'.get? b=some u):Un fs ex H H h h':=⟨λb ob q _ _ _=>k b ob q,λb ob q _ _ _=>⟨ob.slots,k b ob q⟩,λ_ _ _ n _=>n,λb ob q _=>⟨ob,k b ob q⟩,λ_ _ q=>q,λ_ _ _ q=>q,λ_ ps q=>(by rw[q])⟩
theorem Un.refl:Un fs ex H H h h:=Un.kept λ_ _ q=>q
theorem Un.laid(k:∀b u,h.get? b=some u->h'.get? b=some u)(c:h.objs.size<=a)(hn:H a=none):Un fs ex H (upd H a o) h h' where
 keep:=λb u q _ _ _=>k b u q;slot:=λb u q _ _ _=>⟨u.slots,k b u q⟩;free:=λb u q n _=>by rw[aY (eN (gP (b_ q) c))];exact n
 there:=λb u q _=>⟨u,k b u q⟩;yk:=λb xs q=>by rw[aY (aZ q hn)];exact q
 qR:=λb u xs q=>by rw[aY (aZ q hn)];exact q
 qS:=λb ps q=>(by rw[aY (aZ q hn),q])
theorem Un.write(c:Mut (H x))(g:e=x\/H e=some (.own x))(k:∀b u,b≠e->h.get? b=some u->h'.get? b=some u)(i:∃u,h'.get? e=some u):Un fs ex H (upd H x o) h h':=by
 have f:∀b,H b=none->b≠x:=λb n z=>by subst z;rw[n]at c;exact c
 have hb:∀b,H b=none->b≠e:=λb n z=>by
  subst z;rcases g with r|r;·exact f b n r
  ·rw[n]at r;cases r
 have hm:∀b u,H b=some u->¬Mut (some u)->b≠x:=λb u q j z=>by subst z;rw[q]at c;exact j c
 refine⟨λb u q n _ _=>k b u (hb b n) q,λb u q n _ _=>⟨u.slots,k b u (hb b n) q⟩,λb u q n _=>by rw[aY (f b n)];exact n,λb u q _=>?_,λb xs q=>by rw[aY (hm b _ q λz=>z)];exact q,λb u xs q=>by rw[aY (hm b _ q λz=>z)];exact q,λb ps q=>(by rw[aY (hm b _ q λz=>z),q])⟩;by_cases d:b=e;·subst d;exact i
 ·exact⟨u,k b u d q⟩
end
noncomputable def trk(h:Heap)(H:Hp):List Addr:=(List.range h.objs.size).filter λa=>(H a).isSome
noncomputable def CB(h:Heap)(H:Hp):Heap:=PySem.W.hideAll h (trk h H)
theorem zO(h:Heap)(H:Hp):(CB h H).objs.size=h.objs.size:=PySem.W.hideAll_size _ _
theorem my{h:Heap}{H:Hp}{b:Addr}{o:Obj}(e:h.get? b=some o)(n:H b=none):(CB h H).get? b=some o:=PySem.W.hideAll_get _ e λhm=>by have q:(H b).isSome=true:=(List.mem_filter.mp hm).2;rw[n]at q;simp at q
theorem JI{h:Heap}{H:Hp}{b:Addr}{o:Obj}(e:(CB h H).get? b=some o):h.get? b=some o/\H b=none:=by have e':h.get? b=some o:=PySem.W.of_hideAll (trk h H) e;refine⟨e',?_⟩;cases q:H b with|none=>rfl|some x=>have hm:b∈trk h H:=List.mem_filter.mpr ⟨List.mem_range.mpr (b_ e'),by simp[q]⟩;have z:(CB h H).get? b=none:=PySem.W.hideAll_none (trk h H) hm;rw[z]at e;cases e
noncomputable def SU(g h:Heap)(L:Addr):List (Addr×Obj):=(List.range h.objs.size).filterMap λa=>if a=L\/(g.get? a).isSome=true then none else(h.get? a).map λo=>(a,o)
noncomputable def rest(g h:Heap)(L d:Addr):List (Addr×Obj):=(SU g h L).filter λp=>decide (p.1≠d)
def BmK(mg:Str->Option Value)(h:Heap):Prop:=∃bm ob,mg "__builtins__"=some (.ref bm)/\bm≠builtinsNs/\h.get? bm=some ob/\ob.cls= .type "module"/\ob.dict=some builtinsNs/\ob.data= .plain
theorem BmK.keeps{mg:Str->Option Value}{h h':Heap}(x:BmK mg h)(k:∀b o,h.get? b=some o->h'.get? b=some o):BmK mg h':=let⟨bm,ob,a,b,c,d⟩:=x;⟨bm,ob,a,b,k _ _ c,d⟩
structure Mod(K:PySem.W.Frag)(mg:Str->Option Value)(base:Heap):Prop where
 Ly:K.In base
 glob:base.Ns mainGlobals mg
 blt:∃mb,base.Ns builtinsNs mb/\∀x:Str,x≠"__name__"->mb x=bootBuiltins x
 nolimit:base.NoLimit
 bm:BmK mg base
structure Cx where
 prog:Program
 w:World
 K:PySem.W.Frag
 mg:Str->Option Value
 base:Heap
 A:Around
 N:List Str
 cD:Shared
 H₀:Hp
 env:Env
 outer:List Env
 stack:List Env
 ex:List Addr
 fn:Str->Bool
 calm:Bool
 pn:List (Addr×Obj)
 xe:Value->Shared->Prop
noncomputable def jT(l:List Env):List Addr:=l.filterMap (·.frame)
noncomputable abbrev Cx.fs(X:Cx):List Addr:=jT X.outer
def Vis(sc:Scope)(x:Str):Prop:=sc.names.lookup x=some .local\/sc.names.lookup x=some .cell\/sc.names.lookup x=some .free
def Loc(sc:Scope)(x:Str):Prop:=sc.names.lookup x=some .local\/sc.names.lookup x=some .cell
noncomputable def ab6(sc:Scope)(x:Str):Bool:=match sc.names.lookup x with|some .local=>true|some .cell=>true|_=>false
theorem cq{sc:Scope}{x:Str}(h:ab6 sc x=true):Loc sc x:=by
 unfold ab6 at h;split at h;·exact Or.inl (by assumption)
 ·exact Or.inr (by assumption)
 ·cases h
noncomputable def Look(env:Env)(h:Heap)(m:Str->Option Value)(x:Str)(u:Value):Prop:=(env.kindOf x=some .local/\m x=some u)\/((env.kindOf x=some .cell\/env.kindOf x=some .free)/\∃c,env.cells.lookup x=some c/\h.IsCell c (some u))
structure Cx.Ok(X:Cx):Prop where
 mod:Mod X.K X.mg X.base
 kind:X.env.scope.kind= .function
 glob:X.env.globals=mainGlobals
 blt:X.env.builtins=builtinsNs
 above:X.cD.heap.objs.size<=X.env.locals
 inj:∀x y c,X.env.cells.lookup x=some c->X.env.cells.lookup y=some c->x=y
 has:∀x,(X.env.kindOf x=some .cell\/X.env.kindOf x=some .free)->∃c,X.env.cells.lookup x=some c
 Ut:∀x c,X.fn x=true->X.env.cells.lookup x=some c->X.cD.heap.objs.size<=c
 hd:X.calm=true->HBp X.base X.pn X.A
 frames:X.A.frames=some X.stack
 YT:X.stack=X.outer\/(X.stack=X.env::X.outer/\X.env.frame=some X.env.locals)
 Yg:∀b∈X.ex,b≠X.env.locals/\∀x c,X.env.cells.lookup x=some c->c≠b
 bs:∀b o,X.base.get? b=some o->X.cD.heap.get? b=some o/\X.H₀ b=none
 Ft:X.base.objs.size<=X.cD.heap.objs.size
 zi:∀b o,X.base.get? b=some o->b∉X.ex
 Ct:∀b∈X.ex,b∉X.fs
 jF:X.cD.heap.FunFrames X.base X.outer
 R3:∀b∈X.fs,X.H₀ b=none
structure Inv(X:Cx)(pins:List (Addr×Obj))(σ:List (Option V))(H:Hp)(s:Shared):Prop where
 ok:X.Ok
 os:s.os=X.cD.os
 bare:AllBare s.gens
 base:Un X.fs X.ex X.H₀ H X.cD.heap s.heap
 loc:∃m,s.heap.Ns X.env.locals m/\∀(i:Nat)(x:Str)(v:V),X.N[i]?=some x->σ[i]?=some (some v)->Vis X.env.scope x->∃u,RelV v u/\Look X.env s.heap m x u
 cell:∀x c,X.env.cells.lookup x=some c->∃v,s.heap.IsCell c v
 free:H X.env.locals=none
 fj:∀x c,X.env.cells.lookup x=some c->H c=none
 pin:∀p∈X.pn++pins,s.heap.get? p.1=some p.2/\H p.1=none/\p.1≠X.env.locals/\p.1∉X.fs/\∀v,p.2.data≠ .cell v
 cj:jS X.prog X.w H s.heap
 len:σ.length=X.N.length
section
variable{X:Cx}{pins:List (Addr×Obj)}{σ:List (Option V)}{H H':Hp}{s:Shared}{h':Heap}
theorem Cx.Ok.Zd(ok:X.Ok){b:Addr}{o:Obj}(e:X.base.get? b=some o):b∉X.fs:=λhb=>by have :=(ok.jF.mem hb).1;rw[e]at this;cases this
theorem Inv.bs(I:Inv X pins σ H s):∀b o,X.base.get? b=some o->s.heap.get? b=some o/\H b=none:=λb o e=>⟨I.base.keep b o (I.ok.bs b o e).1 (I.ok.bs b o e).2 (I.ok.Zd e) (I.ok.zi b o e),I.base.free b o (I.ok.bs b o e).1 (I.ok.bs b o e).2 (I.ok.zi b o e)⟩
theorem Inv.bk(I:Inv X pins σ H s):∀b o,X.base.get? b=some o->s.heap.get? b=some o:=λb o e=>(I.bs b o e).1
theorem Inv.mod(I:Inv X pins σ H s):Mod X.K X.mg X.base:=I.ok.mod
theorem Inv.hb(I:Inv X pins σ H s)(hc:X.calm=true):HB s.heap X.A:=by
 rcases I.ok.hd hc with h|⟨a,oe,vs,e1,e2,e3⟩;·exact .inl h
 ·exact .inr ⟨a,oe,vs,e1,e2.elim (I.bk a oe) λm=>(I.pin (a,oe) (oU _ m)).1,e3⟩
theorem Inv.hna(I:Inv X pins σ H s)(hc:X.calm=true){it:Addr}(d:it∈X.ex\/X.cD.heap.objs.size<=it)(e:∀p∈X.pn++pins,p.1≠it):∀a,X.A.handled=some (.ref a)->a≠it:=λa c z=>by
 subst z;rcases I.ok.hd hc with h|⟨b,oe,vs,e1,e2,e3⟩;·rw[h]at c;cases c
 ·rw[e1]at c;cases c;rcases e2 with e2|e2
  ·rcases d with z|z;·exact I.ok.zi _ _ e2 z
   ·exact absurd (gP (b_ e2) I.ok.Ft) (Nat.not_lt.mpr z)
  ·exact e _ (oU _ e2) rfl
theorem Inv.kK(I:Inv X pins σ H s):X.K.In s.heap:=I.ok.mod.Ly.keeps I.bk
theorem Inv.fr(I:Inv X pins σ H s):∃m,Fr X.base X.env.locals s.heap m:=let⟨m,hn,_⟩:=I.loc;⟨m,hn,I.bk,dJ I.ok.Ft I.ok.above⟩
theorem Inv.lt(I:Inv X pins σ H s):X.env.locals<s.heap.objs.size:=let⟨_,hn,_⟩:=I.loc;hn.lt
theorem Inv.sz(I:Inv X pins σ H s):X.cD.heap.objs.size<=s.heap.objs.size:=dJ I.ok.above (Nat.le_of_lt I.lt)
theorem Inv.aeK(I:Inv X pins σ H s){a:Addr}(h:s.heap.objs.size<=a):a∉X.fs:=λhb=>by obtain⟨_,o,b,_⟩:=I.ok.jF.mem hb;exact absurd (gP (b_ b) (dJ I.sz h)) (Nat.lt_irrefl _)
theorem Inv.To(I:Inv X pins σ H s):∀x c,X.env.cells.lookup x=some c->c≠X.env.locals:=λx c e z=>by obtain⟨v,o,a,hd⟩:=I.cell x c e;obtain⟨m,⟨o',es,ep,d,b,_⟩,_⟩:=I.loc;rw[z,d]at a;cases a;rw[b]at hd;cases hd
theorem Inv.jF(I:Inv X pins σ H s):s.heap.FunFrames X.base X.outer:=by
 have all:∀(l:List Env),(∀b∈jT l,b∈X.fs)->X.cD.heap.FunFrames X.base l->s.heap.FunFrames X.base l:=by intro l;induction l with|nil=>intro _ _;trivial|cons env r h=>intro c hl;obtain⟨d,⟨L,o,hf,hn,f,hd⟩,g⟩:=hl;have a:L∈X.fs:=c L (by unfold jT;rw[List.filterMap_cons,hf];exact eD);obtain⟨sl,e⟩:=I.base.slot L o f (I.ok.R3 L a) a λz=>I.ok.Ct L z a;exact⟨d,⟨L,_,hf,hn,e,hd⟩,h (λb hb=>c b (by unfold jT;rw[List.filterMap_cons,hf];exact eA _ hb)) g⟩
 exact all X.outer (λ_ hb=>hb) I.ok.jF
theorem Inv.stack(I:Inv X pins σ H s):s.heap.FunFrames X.base X.stack:=by
 rcases I.ok.YT with e|⟨e,hf⟩;·rw[e];exact I.jF
 ·rw[e];obtain⟨m,hn,_⟩:=I.loc;refine .cons (by rw[I.ok.kind];decide) hf hn ?_ I.jF;exact Heap.get?_none_of_le (dJ I.ok.Ft I.ok.above)
theorem Inv.gK(I:Inv X pins σ H s):∀b∈jT X.stack,b∈X.env.locals::X.fs:=λb hb=>by
 rcases I.ok.YT with e|⟨e,hf⟩;·rw[e]at hb;exact eA _ hb
 ·rw[e]at hb;unfold jT at hb;rw[List.filterMap_cons,hf]at hb;exact hb
theorem Inv.A5(I:Inv X pins σ H s):∀b∈jT X.stack,H b=none:=λb hb=>by
 rcases List.mem_cons.mp (I.gK b hb)with e|hb;·rw[e];exact I.free
 ·obtain⟨_,o,a,_⟩:=I.ok.jF.mem hb;exact I.base.free b o a (I.ok.R3 b hb) λz=>I.ok.Ct b z hb
theorem Inv.step{g':Array GenState}{t':Nat}{d':Drawn}{ch:List Addr}(I:Inv X pins σ H s)(g:∀b∈ch,(b∈X.ex\/X.cD.heap.objs.size<=b)/\b≠X.env.locals/\(∀x c,X.env.cells.lookup x=some c->c≠b)/\∀p∈X.pn++pins,p.1≠b)(keep:∀b o,b≠X.env.locals->b∉X.fs->b∉ch->s.heap.get? b=some o->H b=none->h'.get? b=some o)(slot:∀b o,b≠X.env.locals->b∈X.fs->b∉ch->s.heap.get? b=some o->H b=none->∃sl,h'.get? b=some {o with slots:=sl})(free:∀b o,b∉ch->s.heap.get? b=some o->H b=none->H' b=none)(there:∀b o,b∉ch->s.heap.get? b=some o->∃o',h'.get? b=some o')(yk:∀b xs,H b=some (.tup xs)->H' b=some (.tup xs))(qR:∀b o u,H b=some (.Fs o u)->H' b=some (.Fs o u))(qS:∀b ps,H b=some (.zf ps)->H' b=some (.zf ps))(ns:∀m,s.heap.Ns X.env.locals m->h'.Ns X.env.locals m)(cj:jS X.prog X.w H' h')(A:AllBare g'):Inv X pins σ H' {s with heap:=h',gens:=g',drawn:=d',toks:=t'}:=by
 have w:∀b o,X.cD.heap.get? b=some o->b≠X.env.locals:=λb o e=>eN (gP (b_ e) I.ok.above);have j:∀b o,X.cD.heap.get? b=some o->b∉X.ex->b∉ch:=λb o e a hb=>by
  rcases(g b hb).1 with z|z;·exact a z
  ·exact absurd (gP (b_ e) z) (Nat.lt_irrefl _)
 have cellK:∀x c,X.env.cells.lookup x=some c->∀v,s.heap.IsCell c v->h'.IsCell c v:=λx c e v⟨o,f,hd⟩=>by
  have h:c∉ch:=λz=>(g c z).2.2.1 x c e rfl;by_cases hc:c∈X.fs;·obtain⟨sl,q⟩:=slot c o (I.To x c e) hc h f (I.fj x c e);exact⟨_,q,hd⟩
  ·exact⟨o,keep c o (I.To x c e) hc h f (I.fj x c e),hd⟩
 refine⟨I.ok,I.os,A,⟨λb o e n hb a=>?_,λb o e n hb a=>?_,λb o e n a=>?_,λb o e a=>?_,λb xs e=>yk b xs (I.base.yk b xs e),λb o xs e=>qR b o xs (I.base.qR b o xs e),λb ps e=>?_⟩,?_,λx c e=>?_,?_,λx c e=>?_,λp t=>?_,cj,I.len⟩;·exact keep b o (w b o e) hb (j b o e a) (I.base.keep b o e n hb a) (I.base.free b o e n a)
 ·obtain⟨sl,e1⟩:=I.base.slot b o e n hb a;obtain⟨B,e2⟩:=slot b _ (w b o e) hb (j b o e a) e1 (I.base.free b o e n a);exact⟨B,e2⟩
 ·obtain⟨o',e1⟩:=I.base.there b o e a;exact free b o' (j b o e a) e1 (I.base.free b o e n a)
 ·obtain⟨o',e1⟩:=I.base.there b o e a;exact there b o' (j b o e a) e1
 ·exact qS b ps (I.base.qS b ps e)
 ·obtain⟨m,hn,hl⟩:=I.loc;refine⟨m,ns m hn,λi x v e1 e2 e3=>?_⟩;obtain⟨u,r,l⟩:=hl i x v e1 e2 e3;refine⟨u,r,?_⟩;rcases l with l|⟨k,c,e,z⟩;·exact .inl l
  ·exact .inr ⟨k,c,e,cellK x c e _ z⟩
 ·obtain⟨v,z⟩:=I.cell x c e;exact⟨v,cellK x c e v z⟩
 ·obtain⟨m,⟨o,_,_,f,_⟩,_⟩:=I.loc;exact free _ o (λz=>(g _ z).2.1 rfl) f I.free
 ·obtain⟨v,o,f,hd⟩:=I.cell x c e;exact free c o (λz=>(g c z).2.2.1 x c e rfl) f (I.fj x c e)
 ·obtain⟨e,n,ne,y,d⟩:=I.pin p t;have h:p.1∉ch:=λz=>(g p.1 z).2.2.2 p t rfl;exact⟨keep p.1 p.2 ne y h e n,free p.1 p.2 h e n,ne,y,d⟩
theorem Inv.un{t':Nat}(I:Inv X pins σ H s)(u:Un X.fs [] H H' s.heap h')(cj:jS X.prog X.w H' h'):Inv X pins σ H' {s with heap:=h',toks:=t'}:=by obtain⟨m,⟨o,es,ep,a,r⟩,_⟩:=id I.loc;obtain⟨sl,g⟩:=u.any a I.free (by simp);exact I.step (g':=s.gens) (d':=s.drawn) (ch:=[]) (λ_ z=>nomatch z) (λb o _ hb _ e n=>u.keep b o e n hb (by simp)) (λb o _ hb _ e n=>u.slot b o e n hb (by simp)) (λb o _ e n=>u.free b o e n (by simp)) (λb o _ e=>u.there b o e (by simp)) u.yk u.qR u.qS (λi hm=>by obtain⟨o',f,d,c,h⟩:=hm;rw[a]at c;cases c;exact⟨_,f,d,g,h⟩) cj I.bare
theorem Inv.call{g':Array GenState}{t':Nat}{d':Drawn}{ch:List Addr}(I:Inv X pins σ H s)(u:Un (jT X.stack) ch H H' s.heap h')(cj:jS X.prog X.w H' h')(j:AllBare g')(d:∀b∈ch,(b∈X.ex\/X.cD.heap.objs.size<=b)/\b≠X.env.locals/\(∀x c,X.env.cells.lookup x=some c->c≠b)/\∀p∈X.pn++pins,p.1≠b):Inv X pins σ H' {s with heap:=h',gens:=g',drawn:=d',toks:=t'}:=by obtain⟨m,⟨o,es,ep,f,r⟩,_⟩:=id I.loc;obtain⟨sl,a⟩:=u.any f I.free λz=>(d _ z).2.1 rfl;exact I.step (ch:=ch) d (λb o a hb hc e n=>u.keep b o e n (λz=>(List.mem_cons.mp (I.gK b z)).elim a hb) hc) (λb o _ _ hc e n=>u.any e n hc) (λb o hc e n=>u.free b o e n hc) (λb o hc e=>u.there b o e hc) u.yk u.qR u.qS (λl hm=>by obtain⟨o',i,h,g,k⟩:=hm;rw[f]at g;cases g;exact⟨_,i,h,a,k⟩) cj j
theorem Inv.turned{t':Nat}{it:Addr}(I:Inv X pins σ H s)(k:∀b o,b≠it->s.heap.get? b=some o->h'.get? b=some o)(hn:H it=none)(a:it≠X.env.locals)(h1:it∈X.ex\/X.cD.heap.objs.size<=it)(h2:∀x c,X.env.cells.lookup x=some c->c≠it)(h3:∀p∈X.pn++pins,p.1≠it):Inv X pins σ H {s with heap:=h',toks:=t'}:=by
 have d:∀b u,H b=some u->b≠it:=λb u e z=>by rw[z,hn]at e;cases e
 refine I.step (g':=s.gens) (d':=s.drawn) (ch:=[it]) (λb hb=>?_) (λb o _ _ hc e _=>k b o (λz=>hc (by simp[z])) e) (λb o _ _ hc e _=>⟨o.slots,k b o (λz=>hc (by simp[z])) e⟩) (λ_ _ _ _ n=>n) (λb o hc e=>⟨o,k b o (λz=>hc (by simp[z])) e⟩) (λ_ _ e=>e) (λ_ _ _ e=>e) (λb ps e=>(by rw[e])) (λm hm=>?_) (λb u e=>?_) I.bare
 ·have e:b=it:=by simpa using hb
  subst e;exact⟨h1,a,h2,h3⟩
 ·obtain⟨o,es,ep,f,r⟩:=hm;exact⟨o,es,ep,k _ o (Ne.symm a) f,r⟩
 ·refine(I.cj b u e).xm (λc v hc q=>k c v ?_ q) (λ_ q=>q) λ_ _ q=>q;rcases hc with z|z;·rw[z];exact d b u e
  ·exact d c _ z
theorem Inv.tok(I:Inv X pins σ H s)(t:Nat):Inv X pins σ H {s with toks:=t}:=I.un (h':=s.heap) (t':=t) Un.refl I.cj
theorem Inv.kept{t':Nat}(I:Inv X pins σ H s)(k:∀b u,s.heap.get? b=some u->h'.get? b=some u):Inv X pins σ H {s with heap:=h',toks:=t'}:=I.un (Un.kept k) (I.cj.kept k)
theorem Inv.laid{a:Addr}{o:HO}{t':Nat}(I:Inv X pins σ H s)(k:∀b u,s.heap.get? b=some u->h'.get? b=some u)(c:s.heap.objs.size<=a)(new:cK X.prog X.w (upd H a o) h' a o):Inv X pins σ (upd H a o) {s with heap:=h',toks:=t'}:=I.un (Un.laid k c (I.cj.fresh c)) (I.cj.laid k c new)
theorem Inv.write{x e:Addr}{o:HO}{t':Nat}(I:Inv X pins σ H s)(d:Mut (H x))(a:e=x\/H e=some (.own x))(k:∀b u,b≠e->s.heap.get? b=some u->h'.get? b=some u)(c:∃u,h'.get? e=some u)(new:cK X.prog X.w (upd H x o) h' x o):Inv X pins σ (upd H x o) {s with heap:=h',toks:=t'}:=I.un (Un.write d a k c) (I.cj.write d a k c new)
theorem Inv.weak{a:List (Option V)}(I:Inv X pins σ H s)(hl:a.length=σ.length)(w:∀(i:Nat)v,a[i]?=some (some v)->σ[i]?=some (some v)):Inv X pins a H s:=⟨I.ok,I.os,I.bare,I.base,let⟨m,hn,b⟩:=I.loc;⟨m,hn,λi x v e1 e2 e3=>b i x v e1 (w i v e2) e3⟩,I.cell,I.free,I.fj,I.pin,I.cj,hl.trans I.len⟩
theorem Inv.tj{a:List (Addr×Obj)}(I:Inv X pins σ H s)(h:∀p∈a,s.heap.get? p.1=some p.2/\H p.1=none/\p.1≠X.env.locals/\p.1∉X.fs/\∀v,p.2.data≠ .cell v):Inv X a σ H s:=⟨I.ok,I.os,I.bare,I.base,I.loc,I.cell,I.free,I.fj,λp b=>(List.mem_append.mp b).elim (λz=>I.pin p (oU _ z)) (h p),I.cj,I.len⟩
theorem xO{N:List Str}(c:N.Nodup){i j:Nat}{x:Str}(a:N[i]?=some x)(b:N[j]?=some x):i=j:=by obtain⟨h1,e1⟩:=List.getElem?_eq_some_iff.mp a;obtain⟨h2,e2⟩:=List.getElem?_eq_some_iff.mp b;exact(List.getElem_inj c).mp (e1.trans e2.symm)
theorem Ad{M:Model}{A:Around}{E:Value->Shared->Prop}{i:Nat}{x:Str}{v:V}{u:Value}{Q:Unit->Shared->Prop}(I:Inv X pins σ H s)(L:X.N.Nodup)(hi:X.N[i]?=some x)(g:Loc X.env.scope x)(r:RelV v u)(h:∀s',Inv X pins (σ.set i (some v)) H s'->(∃a,Heap.SameBut a s.heap s'.heap/\(a=X.env.locals\/X.env.cells.lookup x=some a))->Q () s')(hf:X.fn x=true\/X.env.scope.names.lookup x=some .local:=by first|exact .inl rfl|exact .inr rfl|assumption):wpAny M A (storeName X.env x u) Q E s:=by
 obtain⟨m,hn,hl⟩:=id I.loc;have T:(X.env.scope.kind== .class||(X.env.scope.kind== .module&&X.env.locals !=X.env.globals))=false:=by rw[I.ok.kind];rfl
 have R:i<σ.length:=by rw[I.len];exact(List.getElem?_eq_some_iff.mp hi).1
 have To:=I.To;have tracked:∀{a:Addr}{h':Heap},(∃o,s.heap.get? a=some o/\H a=none)->Heap.SameBut a s.heap h'->jS X.prog X.w H h':=λ{a h'}ha f b ob e=>by
  obtain⟨_,_,P⟩:=ha;refine(I.cj b ob e).xm (λc B hc q=>(f.2 c ?_).trans q) (λ_ q=>q) λ_ _ q=>q;rintro rfl;rcases hc with rfl|hc;·rw[P]at e;cases e
  ·rw[P]at hc;cases hc
 rcases g with l|l
 ·refine wpAny_storeName_local l hn (λh' U f=>?_) T;obtain⟨Z,_,_,W,_⟩:=id hn;refine h _ ⟨I.ok,I.os,I.bare,⟨λb o e n hb g=>?_,λb o e n hb g=>?_,I.base.free,λb o e g=>?_,I.base.yk,I.base.qR,I.base.qS⟩,⟨_,U,λj y K e1 e2 e3=>?_⟩,λy c e=>?_,I.free,I.fj,λp D=>?_,tracked ⟨Z,W,I.free⟩ f,by simpa using I.len⟩ ⟨_,f, .inl rfl⟩;·exact(f.2 b (eN (gP (b_ e) I.ok.above))).trans (I.base.keep b o e n hb g)
  ·obtain⟨sl,e1⟩:=I.base.slot b o e n hb g;exact⟨sl,(f.2 b (eN (gP (b_ e) I.ok.above))).trans e1⟩
  ·obtain⟨o',e1⟩:=I.base.there b o e g;exact⟨o',(f.2 b (eN (gP (b_ e) I.ok.above))).trans e1⟩
  ·by_cases t:j=i;·subst t;rw[hi]at e1;cases e1;rw[List.getElem?_set_self R]at e2;cases e2;exact⟨u,r, .inl ⟨l,by simp⟩⟩
   ·rw[List.getElem?_set_ne (Ne.symm t)]at e2;obtain⟨J,G,q⟩:=hl j y K e1 e2 e3;refine⟨J,G,?_⟩;rcases q with⟨k,e⟩|⟨k,c,e,z⟩;·refine .inl ⟨k,?_⟩;have :y≠x:=λe=>t (xO L e1 (e▸hi));simp[this,e]
    ·exact .inr ⟨k,c,e,z.sameBut f (To y c e)⟩
  ·obtain⟨B,z⟩:=I.cell y c e;exact⟨B,z.sameBut f (To y c e)⟩
  ·obtain⟨e,n,ne,F,d⟩:=I.pin p D;exact⟨(f.2 p.1 ne).trans e,n,ne,F,d⟩
 ·have C:X.fn x=true:=by
   rcases hf with z|z;·exact z
   ·rw[z]at l;cases l
  obtain⟨c,hc⟩:=I.ok.has x (.inl l);obtain⟨B,z⟩:=I.cell x c hc;refine wpAny_storeName_cell I.ok.kind l hc z (λh' N f=>?_);obtain⟨oc,S,Y⟩:=id z;refine h {s with heap:=h'} ⟨I.ok,I.os,I.bare,⟨λb o e n hb g=>?_,λb o e n hb g=>?_,I.base.free,λb o e g=>?_,I.base.yk,I.base.qR,I.base.qS⟩,⟨m,hn.sameBut f (Ne.symm (To x c hc)),λj y K e1 e2 e3=>?_⟩,λy w e=>?_,I.free,I.fj,λp D=>?_,tracked ⟨oc,S,I.fj x c hc⟩ f,by simpa using I.len⟩ ⟨c,f, .inr hc⟩;·exact(f.2 b (eN (gP (b_ e) (I.ok.Ut x c C hc)))).trans (I.base.keep b o e n hb g)
  ·obtain⟨sl,e1⟩:=I.base.slot b o e n hb g;exact⟨sl,(f.2 b (eN (gP (b_ e) (I.ok.Ut x c C hc)))).trans e1⟩
  ·obtain⟨o',e1⟩:=I.base.there b o e g;exact⟨o',(f.2 b (eN (gP (b_ e) (I.ok.Ut x c C hc)))).trans e1⟩
  ·by_cases t:j=i;·subst t;rw[hi]at e1;cases e1;rw[List.getElem?_set_self R]at e2;cases e2;exact⟨u,r, .inr ⟨.inl l,c,hc,N⟩⟩
   ·rw[List.getElem?_set_ne (Ne.symm t)]at e2;obtain⟨J,G,q⟩:=hl j y K e1 e2 e3;refine⟨J,G,?_⟩;rcases q with q|⟨k,w,e,z'⟩;·exact .inl q
    ·refine .inr ⟨k,w,e,z'.sameBut f ?_⟩;rintro rfl;exact t (xO L e1 (I.ok.inj _ _ _ e hc▸hi))
  ·by_cases O:w=c;·subst O;exact⟨_,N⟩
   ·obtain⟨w2,z2⟩:=I.cell y w e;exact⟨w2,z2.sameBut f O⟩
  ·obtain⟨e,n,ne,F,d⟩:=I.pin p D;refine⟨(f.2 p.1 ?_).trans e,n,ne,F,d⟩;intro q;rw[q,S]at e;have q':oc=p.2:=Option.some.inj e;exact d B (by rw[<-q'];exact Y)
theorem iT{M:Model}{A:Around}{E:Value->Shared->Prop}{i:Nat}{x:Str}{v:V}{u:Value}{Q:Unit->Shared->Prop}(I:Inv X pins σ H s)(b:X.N.Nodup)(hi:X.N[i]?=some x)(c:Loc X.env.scope x)(r:RelV v u)(h:∀s',Inv X pins (σ.set i (some v)) H s'->Q () s')(hf:X.fn x=true\/X.env.scope.names.lookup x=some .local:=by first|exact .inl rfl|exact .inr rfl|assumption):wpAny M A (storeName X.env x u) Q E s:=Ad I b hi c r (λs' a _=>h s' a) hf
theorem Inv.Py{s':Shared}{ch:List Addr}(I:Inv X pins σ H s)(f:s'.os=s.os)(u:Un (jT X.stack) ch H H' s.heap s'.heap)(cj:jS X.prog X.w H' s'.heap)(d:AllBare s'.gens)(a:∀b∈ch,(b∈X.ex\/X.cD.heap.objs.size<=b)/\b≠X.env.locals/\(∀x c,X.env.cells.lookup x=some c->c≠b)/\∀p∈X.pn++pins,p.1≠b):Inv X pins σ H' s':=by obtain⟨h',g',d',t',o'⟩:=s';have e:o'=s.os:=f;subst e;exact I.call (g':=g') (t':=t') (d':=d') u cj d a
end
noncomputable abbrev XK:=Value->Option Addr->Hp->Prop
noncomputable abbrev St:=List (Option V)
noncomputable abbrev VK:=V->Hp->Prop
noncomputable abbrev TE:=St->Hp->VK->Prop
noncomputable abbrev TT:=St->Hp->(Bool->Hp->Prop)->Prop
noncomputable abbrev TA:=St->Hp->(List V->Hp->Prop)->Prop
structure Ends where
 nx:St->Hp->Prop
 rt:VK
 bk:St->Hp->Prop:=λ_ _=>False
 ct:St->Hp->Prop:=λ_ _=>False
noncomputable abbrev TS:=Ends->St->Hp->Prop
def EP(X:Cx)(pins:List (Addr×Obj))(σ:St)(Q:VK)(u:Value)(s':Shared):Prop:=∃v H',Inv X pins σ H' s'/\RelV v u/\Q v H'
def TP(X:Cx)(pins:List (Addr×Obj))(σ:St)(Q:Bool->Hp->Prop)(b:Bool)(s':Shared):Prop:=∃H',Inv X pins σ H' s'/\Q b H'
def AP(X:Cx)(pins:List (Addr×Obj))(σ:St)(Q:List V->Hp->Prop)(us:List Value)(s':Shared):Prop:=∃vs H',Inv X pins σ H' s'/\Vals vs us/\Q vs H'
noncomputable def SP(X:Cx)(pins:List (Addr×Obj))(D:Ends)(f:Flow)(s':Shared):Prop:=match f with| .next=>∃a H',Inv X pins a H' s'/\D.nx a H'| .brk=>∃a H',Inv X pins a H' s'/\D.bk a H'| .cont=>∃a H',Inv X pins a H' s'/\D.ct a H'| .ret u=>∃v a H',Inv X pins a H' s'/\RelV v u/\D.rt v H'
noncomputable def PE(X:Cx)(e:Expr)(t:TE):Prop:=∀(pins:List (Addr×Obj))(s:Shared)(σ:St)(H:Hp)(Q:VK),Inv X pins σ H s->t σ H Q->wpAny (model X.prog X.w) X.A (eval e X.env) (EP X pins σ Q) X.xe s
noncomputable def PT(X:Cx)(e:Expr)(t:TT):Prop:=∀(pins:List (Addr×Obj))(s:Shared)(σ:St)(H:Hp)(Q:Bool->Hp->Prop),Inv X pins σ H s->t σ H Q->wpAny (model X.prog X.w) X.A (isTrue e X.env (eval e X.env)) (TP X pins σ Q) X.xe s
noncomputable def PW(X:Cx)(e:Expr)(t:TT):Prop:=∀(whole:Sem Value)(pins:List (Addr×Obj))(s:Shared)(σ:St)(H:Hp)(Q:Bool->Hp->Prop),Inv X pins σ H s->t σ H Q->wpAny (model X.prog X.w) X.A (isTrue e X.env whole) (TP X pins σ Q) X.xe s
theorem PW.pt{X:Cx}{e:Expr}{t:TT}(h:PW X e t):PT X e t:=h _
noncomputable def PA(X:Cx)(es:List Expr)(t:TA):Prop:=∀(a:Pos)(pins:List (Addr×Obj))(s:Shared)(σ:St)(H:Hp)(Q:List V->Hp->Prop),Inv X pins σ H s->t σ H Q->wpAny (model X.prog X.w) X.A (spliced (backTo a (starEach es X.env))) (AP X pins σ Q) X.xe s
noncomputable def PS(X:Cx)(st:Stmt)(t:TS):Prop:=∀(pins:List (Addr×Obj))(s:Shared)(σ:St)(H:Hp)(D:Ends),Inv X pins σ H s->t D σ H->wpAny (model X.prog X.w) X.A (exec st X.env) (SP X pins D) X.xe s
noncomputable def iO(X:Cx)(st:List Stmt)(t:TS):Prop:=∀(pins:List (Addr×Obj))(s:Shared)(σ:St)(H:Hp)(D:Ends),Inv X pins σ H s->t D σ H->wpAny (model X.prog X.w) X.A (execs st X.env) (SP X pins D) X.xe s
theorem b9{c:Type}{t:Sem c}{Q b:c->Shared->Prop}{M:Model}{A:Around}{E:Value->Shared->Prop}{s:Shared}(h:wpAny M A t Q E s)(d:∀a s,Q a s->b a s):wpAny M A t b E s:=gg h d λ_ _ x=>x
section
variable{X:Cx}
noncomputable def zw(i:Nat):TE:=λσ H Q=>∃v,σ[i]?=some (some v)/\Q v H
noncomputable def tC(v:V):TE:=λ_ H Q=>Q v H
theorem Qi{i:Nat}{x:Str}{j:Pos}(d:X.N[i]?=some x)(g:Vis X.env.scope x)(hd:(x==("__debug__":Str))=false:=by decide)(f:(x==("__classdict__":Str))=false:=by decide):PE X (.Name x j) (zw i):=by
 intro pins s σ H Q I h;obtain⟨v,e,h⟩:=h;obtain⟨m,hn,hl⟩:=I.loc;obtain⟨u,r,l⟩:=hl i x v d e g;have fin:EP X pins σ Q u s:=⟨v,H,I,r,h⟩;rcases l with⟨a,hm⟩|⟨a,c,hc,b⟩;·exact wpAny_Name (wpAny_loadName_local I.ok.kind a hn hm fin) hd
 ·rcases a with a|a;·exact wpAny_Name (wpAny_loadName_cell I.ok.kind a hc b fin) hd
  ·exact wpAny_Name (wpAny_loadName_free I.ok.kind a hc b fin f) hd
theorem ai{i j a}:PE X (.Constant (.int i) j a) (tC (.int i)):=λ_ _ _ H _ I h=>wpAny_Constant_int ⟨.int i,H,I.tok _,⟨_,rfl⟩,h⟩
theorem Az{b j a}:PE X (.Constant (.bool b) j a) (tC (.bl b)):=λ_ _ _ H _ I h=>Constant_bool ⟨.bl b,H,I,rfl,h⟩
theorem lW{j a}:PE X (.Constant .none j a) (tC .a_):=λ_ _ _ H _ I h=>Constant_none ⟨.a_,H,I,rfl,h⟩
theorem aq{x j a}:PE X (.Constant (.str x) j a) (tC (.str x)):=λ_ _ _ H _ I h=>Calls.Constant_str ⟨.str x,H,I.tok _,⟨_,rfl⟩,h⟩
def Gl(X:Cx)(x:Str):Prop:=X.env.kindOf x=some .globalImplicit
theorem jw{E:Value->Shared->Prop}{pins:List (Addr×Obj)}{s:Shared}{σ:St}{H:Hp}{x:Str}{u:Value}{b:Pos}{Q:Value->Shared->Prop}(I:Inv X pins σ H s)(a:Gl X x)(hm:X.mg x=some u)(h:Q u s)(hd:(x==("__debug__":Str))=false:=by decide):wpAny (model X.prog X.w) X.A (eval (.Name x b) X.env) Q E s:=Calls.Name_function_global I.ok.kind a (Calls.loadGlobal_global (by rw[I.ok.glob];exact I.mod.glob.keeps I.bk) hm h) hd
theorem pd{E:Value->Shared->Prop}{pins:List (Addr×Obj)}{s:Shared}{σ:St}{H:Hp}{x:Str}{u:Value}{c:Pos}{Q:Value->Shared->Prop}(I:Inv X pins σ H s)(a:Gl X x)(hm:X.mg x=none)(b:bootBuiltins x=some u)(h:Q u s)(hn:x≠"__name__":=by decide)(hd:(x==("__debug__":Str))=false:=by decide):wpAny (model X.prog X.w) X.A (eval (.Name x c) X.env) Q E s:=by obtain⟨mb,h1,h2⟩:=I.mod.blt;exact Calls.Name_function_global I.ok.kind a (Calls.loadGlobal_builtin (by rw[I.ok.glob];exact I.mod.glob.keeps I.bk) hm (by rw[I.ok.blt];exact h1.keeps I.bk) ((h2 x hn).trans b) h) hd
theorem JR{x:Str}{v:V}{u:Value}{b:Pos}(a:Gl X x)(hm:X.mg x=some u)(r:RelV v u)(hd:(x==("__debug__":Str))=false:=by decide):PE X (.Name x b) (tC v):=λ_ _ _ H _ I h=>jw I a hm ⟨v,H,I,r,h⟩ hd
theorem Uk{x:Str}{v:V}{u:Value}{c:Pos}(a:Gl X x)(hm:X.mg x=none)(b:bootBuiltins x=some u)(r:RelV v u)(hn:x≠"__name__":=by decide)(hd:(x==("__debug__":Str))=false:=by decide):PE X (.Name x c) (tC v):=λ_ _ _ H _ I h=>pd I a hm b ⟨v,H,I,r,h⟩ hn hd
variable{a b:Expr}{ta tb:TE}{pos:Pos}
noncomputable def PC(X:Cx)(op:CmpOp)(a b:Expr)(t:TE):Prop:=∀(pins:List (Addr×Obj))(s:Shared)(σ:St)(H:Hp)(Q:VK),Inv X pins σ H s->t σ H Q->wpAny (model X.prog X.w) X.A (eval a X.env) (λv c=>wpAny (model X.prog X.w) X.A (eval b X.env) (λu d=>wpAny (model X.prog X.w) X.A (compareOp op v u) (EP X pins σ Q) X.xe d) X.xe c) X.xe s
noncomputable def tB(t:TE):TT:=λσ H Q=>t σ H λx d=>∃c,x= .bl c/\Q c d
theorem Xq{op:CmpOp}{t:TE}(h:PC X op a b t)(h1:behindInMarks op b=false:=by first|exact c _ (by decide) (by decide)|rfl):PE X (.Compare a [op] [b] pos) t:=λpins s σ H Q I hw=>wpAny_Compare1 (h pins s σ H Q I hw) h1
theorem Ny{op:CmpOp}{t:TE}(h:PC X op a b t)(h1:behindInMarks op b=false:=by first|exact j _ (by decide) (by decide)|rfl):PT X (.Compare a [op] [b] pos) (tB t):=by intro pins s σ H Q I hw;refine wpAny_isTrue_Compare1 (b9 (h pins s σ H _ I hw) λv s1 h1=>b9 h1 λu s2 h2=>b9 h2 λc k i=>?_) h1;obtain⟨x,e,f,g,q1⟩:=i;obtain⟨d,rfl,q⟩:=q1;cases g;exact wpAny_truthy_bool ⟨e,f,q⟩
theorem l0{e:Expr}{t:TE}(h:PE X e t)(g:∀whole,isTrue e X.env whole=(do let v<-whole;standAt e.pos;holding [v] (truthy v)):=by intro _;rfl):PT X e (tB t):=by intro pins s σ H Q I hw;refine isTrue_plain (b9 (h pins s σ H _ I hw) λv s1 j=>?_) (g _);obtain⟨x,c,f,i,q1⟩:=j;obtain⟨d,rfl,q⟩:=q1;cases i;exact wpAny_truthy_bool ⟨c,f,q⟩
variable{tA tB':TT}{rest:List Expr}
noncomputable def aet(t u:TT):TT:=λσ H Q=>t σ H λc d=>if c=true then u σ d Q else Q false d
noncomputable def tOr(t u:TT):TT:=λσ H Q=>t σ H λc d=>if c=true then Q true d else u σ d Q
noncomputable def aeX(t:TT):TT:=λσ H Q=>t σ H λc d=>Q (!c) d
theorem Ir(ha:PT X a tA):PW X (.BoolOp .And [a] pos) tA:=by intro d pins s σ H Q I h;refine isTrue_and (b9 (ha pins s σ H Q I h) λc s1 e=>?_);cases c with|true=>exact isTrue_and_nil e|false=>exact e
theorem i9(ha:PT X a tA):PW X (.BoolOp .Or [a] pos) tA:=by intro d pins s σ H Q I h;refine isTrue_or (b9 (ha pins s σ H Q I h) λc s1 e=>?_);cases c with|false=>exact isTrue_or_nil e|true=>exact e
theorem ND(ha:PT X a tA)(hb:PW X (.BoolOp .And (b::rest) pos) tB'):PW X (.BoolOp .And (a::b::rest) pos) (aet tA tB'):=by intro f pins s σ H Q I h;refine isTrue_and (b9 (ha pins s σ H _ I h) λc s1 g=>?_);obtain⟨d,e,q1⟩:=g;cases c with|true=>exact hb f pins s1 σ d Q e q1|false=>exact⟨d,e,q1⟩
theorem lF(ha:PT X a tA)(hb:PW X (.BoolOp .Or (b::rest) pos) tB'):PW X (.BoolOp .Or (a::b::rest) pos) (tOr tA tB'):=by intro f pins s σ H Q I h;refine isTrue_or (b9 (ha pins s σ H _ I h) λc s1 g=>?_);obtain⟨d,e,q1⟩:=g;cases c with|true=>exact⟨d,e,q1⟩|false=>exact hb f pins s1 σ d Q e q1
theorem G9(ha:PT X a tA):PT X (.UnaryOp .Not a pos) (aeX tA):=by intro pins s σ H Q I h;exact isTrue_not (ha pins s σ H (λc d=>Q (!c) d) I h)
noncomputable def aas(ta tb:TE):TE:=λσ H Q=>ta σ H λx d=>∃c,x= .bl c/\if c=true then tb σ d Q else Q (.bl false) d
noncomputable def adY(ta tb:TE):TE:=λσ H Q=>ta σ H λx d=>∃c,x= .bl c/\if c=true then Q (.bl true) d else tb σ d Q
noncomputable def abx(ta:TE):TE:=λσ H Q=>ta σ H λx d=>∃c,x= .bl c/\Q (.bl (!c)) d
theorem NC{op}{t:TE}(h:PE X a t):PE X (.BoolOp op [a] pos) t:=λpins s σ H Q I hw=>BoolOp_one (h pins s σ H Q I hw)
theorem Zy(ha:PE X a ta)(hb:PE X (.BoolOp .And (b::rest) pos) tb):PE X (.BoolOp .And (a::b::rest) pos) (aas ta tb):=by intro pins s σ H Q I h;refine BoolOp_and (b9 (ha pins s σ H _ I h) λv s1 g=>?_);obtain⟨x,d,e,f,q1⟩:=g;obtain⟨c,rfl,q1⟩:=q1;cases f;refine wpAny_truthy_bool ?_;cases c with|true=>exact hb pins s1 σ d Q e q1|false=>exact⟨.bl false,d,e,rfl,q1⟩
theorem V1(ha:PE X a ta)(hb:PE X (.BoolOp .Or (b::rest) pos) tb):PE X (.BoolOp .Or (a::b::rest) pos) (adY ta tb):=by intro pins s σ H Q I h;refine BoolOp_or (b9 (ha pins s σ H _ I h) λv s1 g=>?_);obtain⟨x,d,e,f,q1⟩:=g;obtain⟨c,rfl,q1⟩:=q1;cases f;refine wpAny_truthy_bool ?_;cases c with|false=>exact hb pins s1 σ d Q e q1|true=>exact⟨.bl true,d,e,rfl,q1⟩
theorem X3(ha:PE X a ta):PE X (.UnaryOp .Not a pos) (abx ta):=by intro pins s σ H Q I h;refine UnaryOp_ (b9 (ha pins s σ H _ I h) λv s1 g=>?_);obtain⟨x,d,e,f,q1⟩:=g;obtain⟨c,rfl,q1⟩:=q1;cases f;exact not_of (wpAny_truthy_bool ⟨.bl (!c),d,e,rfl,q1⟩)
noncomputable def tIf(t:TT)(ta tb:TE):TE:=λσ H Q=>t σ H λc d=>if c=true then ta σ d Q else tb σ d Q
theorem jU{c:Expr}(hc:PT X c tA)(ha:PE X a ta)(hb:PE X b tb):PE X (.IfExp c a b pos) (tIf tA ta tb):=by intro pins s σ H Q I h;refine wpAny_IfExp (b9 (hc pins s σ H _ I h) λd s1 g=>?_);obtain⟨e,f,q1⟩:=g;cases d with|true=>exact ha pins s1 σ e Q f q1|false=>exact hb pins s1 σ e Q f q1
end
noncomputable def bE(K:PySem.W.Frag)(H:Hp)(a:Addr)(xs:List V):Prop:=Rd H a (.lst xs)\/∃(o:Obj)(b:Array Value)(n:Nat),K.lookup a=some o/\o.cls= .type "list"/\o.dict=none/\o.data= .seq b n/\b.size<=sizeLine/\Vals xs b.toList
noncomputable def bU(K:PySem.W.Frag)(H:Hp)(a:Addr)(xs:List V):Prop:=Rd H a (.tup xs)\/∃(o:Obj)(b:Array Value)(n:Nat),K.lookup a=some o/\o.cls= .type "tuple"/\o.data= .seq b n/\b.size<=sizeLine/\Vals xs b.toList
noncomputable def adV:Value->Option V| .none=>some .a_| .bool b=>some (.bl b)| .int i _=>some (.int i)| .str x _=>some (.str x)| .bytes b _=>some (.Nd b)| .float b _=>some (.Yp b)| .ref a=>some (.ref a)| .type n=>some (.ty n)|_=>none
theorem RelV.abs{x:V}{u:Value}(r:RelV x u):adV u=some x:=by cases x with|a_=>cases r;rfl|bl _=>cases r;rfl|int _=>obtain⟨t,rfl⟩:=r;rfl|str _=>obtain⟨t,rfl⟩:=r;rfl|Nd _=>obtain⟨t,rfl⟩:=r;rfl|Yp _=>obtain⟨t,rfl⟩:=r;rfl|ref _=>cases r;rfl|ty _=>cases r;rfl
theorem RelV.inj{x y:V}{u:Value}(r:RelV x u)(q:RelV y u):x=y:=Option.some.inj (r.abs.symm.trans q.abs)
theorem Vals.inj:∀{xs a:List V}{us:List Value},Vals xs us->Vals a us->xs=a|_,_,_, .nil, .nil=>rfl|_,_,_, .cons r t, .cons b t'=>by rw[r.inj b,Vals.inj t t']
section
variable{X:Cx}{pins:List (Addr×Obj)}{σ:St}{H:Hp}{s:Shared}{a:Addr}{xs ys:List V}
theorem bE.of{K:PySem.W.Frag}(h:H a=some (.lst xs)):bE K H a xs:= .inl (.inl h)
theorem bU.of{K:PySem.W.Frag}(h:H a=some (.tup xs)):bU K H a xs:= .inl (.inl h)
theorem Inv.list(I:Inv X pins σ H s)(h:bE X.K H a xs):∃b:List Value,Vals xs b/\PlainL s.heap a b.toArray/\xs.length<=sizeLine:=by
 rcases h with h|⟨o,b,n,c,hc,hd,d,f,r⟩;·obtain⟨z,b,n,r,e⟩:=h.ok I.cj;exact⟨b,r,⟨_,n,e,rfl,rfl,rfl⟩,z⟩
 ·refine⟨b.toList,r,⟨o,n,I.kK a o c,hc,hd,by simpa using d⟩,?_⟩;have e:=r.length;simp only[Array.length_toList]at e;lia
theorem Inv.tuple(I:Inv X pins σ H s)(h:bU X.K H a xs):∃b:List Value,Vals xs b/\IsTup s.heap a b.toArray/\xs.length<=sizeLine:=by
 rcases h with h|⟨o,b,n,c,hc,d,f,r⟩;·obtain⟨z,b,r,p⟩:=h.ok I.cj;exact⟨b,r,p,z⟩
 ·refine⟨b.toList,r,⟨o,I.kK a o c,hc,n,by simpa using d⟩,?_⟩;have e:=r.length;simp only[Array.length_toList]at e;lia
theorem Inv.xB(I:Inv X pins σ H s)(h:bE X.K H a xs)(h':bE X.K H a ys):xs=ys:=by
 obtain⟨c,r,⟨o,n,e,_,_,d⟩,_⟩:=I.list h;obtain⟨its',f,⟨o',g,e',_,_,d'⟩,_⟩:=I.list h';rw[e]at e';cases e';rw[d]at d';injection d' with b _;have :c=its':=by simpa using congrArg Array.toList b
 subst this;exact r.inj f
theorem Inv.Mn(I:Inv X pins σ H s)(h:bU X.K H a xs)(h':bU X.K H a ys):xs=ys:=by
 obtain⟨c,r,⟨o,e,_,n,d⟩,_⟩:=I.tuple h;obtain⟨its',f,⟨o',e',_,g,d'⟩,_⟩:=I.tuple h';rw[e]at e';cases e';rw[d]at d';injection d' with b _;have :c=its':=by simpa using congrArg Array.toList b
 subst this;exact r.inj f
end
noncomputable abbrev Cx.xU(X:Cx)(E:Value->Shared->Prop):Cx:={X with xe:=E}
noncomputable abbrev Cx.Nc(X:Cx):Cx:=X.xU λ_ _=>False
theorem Cx.Ok.xU{X:Cx}(ok:X.Ok)(E:Value->Shared->Prop):(X.xU E).Ok:=⟨ok.mod,ok.kind,ok.glob,ok.blt,ok.above,ok.inj,ok.has,ok.Ut,ok.hd,ok.frames,ok.YT,ok.Yg,ok.bs,ok.Ft,ok.zi,ok.Ct,ok.jF,ok.R3⟩
theorem Cx.Ok.gT{X:Cx}{E:Value->Shared->Prop}(ok:(X.xU E).Ok):X.Ok:=⟨ok.mod,ok.kind,ok.glob,ok.blt,ok.above,ok.inj,ok.has,ok.Ut,ok.hd,ok.frames,ok.YT,ok.Yg,ok.bs,ok.Ft,ok.zi,ok.Ct,ok.jF,ok.R3⟩
section
variable{X:Cx}{pins:List (Addr×Obj)}{σ:St}{H:Hp}{s:Shared}{E:Value->Shared->Prop}
theorem Inv.xU(I:Inv X pins σ H s)(E:Value->Shared->Prop):Inv (X.xU E) pins σ H s:=⟨I.ok.xU E,I.os,I.bare,I.base,I.loc,I.cell,I.free,I.fj,I.pin,I.cj,I.len⟩
theorem Inv.gT(I:Inv (X.xU E) pins σ H s):Inv X pins σ H s:=⟨I.ok.gT,I.os,I.bare,I.base,I.loc,I.cell,I.free,I.fj,I.pin,I.cj,I.len⟩
theorem SP.gT{D:Ends}{f:Flow}{s':Shared}(h:SP (X.xU E) pins D f s'):SP X pins D f s':=by cases f with|next=>obtain⟨a,H',I,q⟩:=h;exact⟨a,H',I.gT,q⟩|brk=>obtain⟨a,H',I,q⟩:=h;exact⟨a,H',I.gT,q⟩|cont=>obtain⟨a,H',I,q⟩:=h;exact⟨a,H',I.gT,q⟩|ret u=>obtain⟨v,a,H',I,r,q⟩:=h;exact⟨v,a,H',I.gT,r,q⟩
theorem iO.Nc{st:List Stmt}{t:TS}(h:iO X.Nc st t):iO X st t:=λpins s σ H D I hw=>gg (h pins s σ H D (I.xU _) hw) (λ_ _ q=>q.gT) λ_ _ z=>False.elim z
end
section
variable{X:Cx}{st:Stmt}{rest:List Stmt}{t u:TS}{e:Expr}{te:TE}{pos:Pos}
noncomputable def WB:TS:=λD σ H=>D.nx σ H
noncomputable def bc(t u:TS):TS:=λD σ H=>t {D with nx:=u D} σ H
theorem aK:iO X [] WB:=λ_ _ σ H _ I h=>wpAny_execs_nil ⟨σ,H,I,h⟩
theorem ah(h1:PS X st t)(h2:iO X rest u):iO X (st::rest) (bc t u):=by intro pins s σ H D I h;refine wpAny_execs_cons (b9 (h1 pins s σ H {D with nx:=u D} I h) λf s1 q=>?_);cases f with|next=>obtain⟨b,H',a,q⟩:=q;exact h2 pins s1 b H' D a q|ret v=>exact q|brk=>exact q|cont=>exact q
theorem ak(h1:PS X st t):iO X [st] t:=by intro pins s σ H D I h;refine wpAny_execs_cons (b9 (h1 pins s σ H D I h) λf s1 q=>?_);cases f with|next=>exact wpAny_execs_nil q|ret v=>exact q|brk=>exact q|cont=>exact q
theorem Inv.quiet{pins:List (Addr×Obj)}{σ:St}{H:Hp}{s:Shared}(I:Inv X pins σ H s):interactive X.env=false:=by simp[interactive,I.ok.kind]
noncomputable def abI(te:TE):TS:=λD σ H=>te σ H λ_ a=>D.nx σ a
theorem uD(c:PE X e te)(d:swapsWith e none pos.line X.env=pure false:=by rfl):PS X (.Expr e pos) (abI te):=by intro pins s σ H D I h;exact wpAny_Expr_any (b9 (c pins s σ H _ I h) λv s1⟨x,a,b,f,q1⟩=>⟨σ,a,b,q1⟩) I.quiet d
noncomputable def abf(te:TE):TS:=λD σ H=>te σ H D.rt
theorem aw(c:PE X e te):PS X (.Return (some e) pos) (abf te):=by intro pins s σ H D I h;exact wpAny_Return_some (b9 (c pins s σ H _ I h) λv s1⟨x,a,b,d,q1⟩=>⟨x,σ,a,b,d,q1⟩)
noncomputable def adw(c:TT)(t u:TS):TS:=λD σ H=>c σ H λb a=>if b=true then t D σ a else u D σ a
theorem bf{c:Expr}{a b:List Stmt}{i:TT}(hc:PT X c i)(ha:iO X a t)(hb:iO X b u):PS X (.If c a b pos) (adw i t u):=by intro pins s σ H D I h;refine wpAny_If (b9 (hc pins s σ H _ I h) λd s1 j=>?_);obtain⟨f,g,q1⟩:=j;cases d with|true=>exact ha pins s1 σ f D g q1|false=>exact hb pins s1 σ f D g q1
end
noncomputable abbrev TG:=V->St->Hp->(St->Hp->Prop)->Prop
noncomputable abbrev TGs:=List V->St->Hp->(St->Hp->Prop)->Prop
noncomputable def PG(X:Cx)(target:Expr)(t:TG):Prop:=∀(pins:List (Addr×Obj))(s:Shared)(σ:St)(H:Hp)(v:V)(u:Value)(Q:St->Hp->Prop),Inv X pins σ H s->RelV v u->t v σ H Q->wpAny (model X.prog X.w) X.A (assign target X.env u) (λ_ s'=>∃a H',Inv X pins a H' s'/\Q a H') X.xe s
noncomputable def Bu(X:Cx)(ts:List Expr)(t:TGs):Prop:=∀(pins:List (Addr×Obj))(s:Shared)(σ:St)(H:Hp)(vs:List V)(us:List Value)(Q:St->Hp->Prop),Inv X pins σ H s->Vals vs us->t vs σ H Q->wpAny (model X.prog X.w) X.A (assignInOrder ((assignEach ts X.env).map (·.2)) us) (λ_ s'=>∃a H',Inv X pins a H' s'/\Q a H') X.xe s
noncomputable abbrev Y3:=V->V->V->Hp->(Hp->Prop)->Prop
noncomputable def ab3(X:Cx)(t:Y3):Prop:=∀(pins:List (Addr×Obj))(s:Shared)(σ:St)(H:Hp)(o i v:V)(b a u:Value)(Q:Hp->Prop),Inv X pins σ H s->RelV o b->RelV i a->RelV v u->t o i v H Q->wpAny (model X.prog X.w) X.A (setItem b a u) (λ_ s'=>∃H',Inv X pins σ H' s'/\Q H') X.xe s
noncomputable abbrev TIp:=V->V->Hp->VK->Prop
noncomputable def PIp(X:Cx)(op:Operator)(t:TIp):Prop:=∀(pins:List (Addr×Obj))(s:Shared)(σ:St)(H:Hp)(x y:V)(v u:Value)(Q:VK),Inv X pins σ H s->RelV x v->RelV y u->t x y H Q->wpAny (model X.prog X.w) X.A (inplaceOp op v u) (EP X pins σ Q) X.xe s
section
variable{X:Cx}{pos:Pos}
noncomputable def n8(i:Nat):TG:=λv σ H Q=>Q (σ.set i (some v)) H
theorem bJ{i:Nat}{x:Str}(b:X.N.Nodup)(hi:X.N[i]?=some x)(c:Loc X.env.scope x)(hf:X.fn x=true\/X.env.scope.names.lookup x=some .local:=by first|exact .inl rfl|exact .inr rfl|assumption):PG X (.Name x pos) (n8 i):=by intro pins s σ H v u Q I r h;exact wpAny_assign_Name (iT I b hi c r (λs' a=>⟨_,H,a,h⟩) hf)
noncomputable def acy:TGs:=λvs σ H Q=>vs=[]/\Q σ H
noncomputable def NF(t:TG)(u:TGs):TGs:=λvs σ H Q=>∃v r,vs=v::r/\t v σ H λa H'=>u r a H' Q
theorem m7:Bu X [] acy:=by intro pins s σ H vs us Q I r h;obtain⟨e,h⟩:=h;subst e;cases r;exact assignInOrder_nil ⟨σ,H,I,h⟩
theorem d4{e:Expr}{es:List Expr}{t:TG}{u:TGs}(h1:PG X e t)(h2:Bu X es u)(c:(assignEach (e::es) X.env).map (·.2)=assign e X.env::(assignEach es X.env).map (·.2):=by rfl):Bu X (e::es) (NF t u):=by intro pins s σ H vs us Q I r h;obtain⟨v,g,e1,h⟩:=h;subst e1;cases r with|cons r rr=>rw[c];refine assignInOrder_cons (b9 (h1 pins s σ H _ _ _ I r h) λ_ s1 d=>?_);obtain⟨f,a,b,q1⟩:=d;exact h2 pins s1 f a _ _ Q b rr q1
noncomputable def abX(K:PySem.W.Frag)(n:Nat)(t:TGs):TG:=λv σ H Q=>∃a xs,v= .ref a/\bU K H a xs/\xs.length=n/\t xs σ H Q
theorem yn{es:List Expr}{k:Nat}{t:TGs}{n:Nat}(hc:X.calm=true)(h:Bu X es t)(hn:(assignEach es X.env).length=n:=by rfl)(f:(assignEach es X.env).findIdx? (·.1)=none:=by rfl):PG X (.Tuple es k pos) (abX X.K n t):=by intro pins s σ H v u Q I r hw;obtain⟨a,xs,e1,hq,hl,hw⟩:=hw;subst e1;cases r;obtain⟨i,c,ht,j⟩:=I.tuple hq;refine SR (I.hb hc) (show s.heap.IsTuple a i.toArray from ht) (by simp[hn,<-hl,c.length]) f λh' g=>?_;have d:Inv X pins σ H {s with heap:=h'}:=I.kept (t':=s.toks) λb o e=>g b o (eN (b_ e)) e;exact h pins _ σ H xs _ Q d (by simpa using c) hw
noncomputable def aeJ(to d:TE)(t:Y3):TG:=λv σ H Q=>to σ H λo a=>d σ a λi b=>t o i v b λc=>Q σ c
theorem Px{o i:Expr}{to d:TE}{t:Y3}(m:PE X o to)(hi:PE X i d)(n:ab3 X t)(ha:∀v,assign (.Subscript o i pos) X.env v=(do let a<-holding [v] (eval o X.env);let b<-holding [v,a] (eval i X.env);standAt pos;holding [v,a,b] (setItem a b v);release [v,a,b] []):=by intro _;rfl):PG X (.Subscript o i pos) (aeJ to d t):=by intro pins s σ H v u Q I r h;rw[ha];refine az (kf (b9 (m pins s σ H _ I h) λa s1 c=>?_));obtain⟨x,e,j,p,q1⟩:=c;refine az (kf (b9 (hi pins s1 σ e _ j q1) λb s2 c=>?_));obtain⟨y,f,k,q,q2⟩:=c;refine az (wpAny_standAt (az (kf (b9 (n pins s2 σ f x y v a b u _ k p q r q2) λ_ w c=>?_))));obtain⟨g,l,q3⟩:=c;exact wpAny_release ⟨σ,g,l,q3⟩
noncomputable def YR(b:TE)(g:TG):TS:=λD σ H=>b σ H λx a=>g x σ a D.nx
theorem Gx{tg e:Expr}{a:TE}{g:TG}(d:PE X e a)(f:PG X tg g)(i:swapsWithSole [tg] e pos.line X.env=pure false:=by rfl)(hw:swappedStores [tg] e X.env=pure none:=by rfl)(h1:(assignEach [tg] X.env).map (·.2)=[assign tg X.env]:=by rfl):PS X (.Assign [tg] e pos) (YR a g):=by intro pins s σ H D I h;refine wpAny_Assign_stores (b9 (d pins s σ H _ I h) λv s1 k=>?_) i hw;obtain⟨x,b,c,j,q1⟩:=k;rw[h1];exact b9 (f pins s1 σ b x v _ c j q1) λ_ s2 q=>q
theorem aH{i:Nat}{x:Str}{e:Expr}{a:TE}{pos':Pos}(f:X.N.Nodup)(hi:X.N[i]?=some x)(k:Loc X.env.scope x)(g:PE X e a)(j:swapsWith e (some (.Name x pos')) pos.line X.env=pure false:=by rfl)(hf:X.fn x=true\/X.env.scope.names.lookup x=some .local:=by first|exact .inl rfl|exact .inr rfl|assumption):PS X (.Assign [.Name x pos'] e pos) (YR a (n8 i)):=by intro pins s σ H D I h;refine wpAny_Assign_Name (b9 (g pins s σ H _ I h) λv s1 m=>?_) j;obtain⟨y,b,c,l,q1⟩:=m;exact iT c f hi k l (λs2 d=>⟨_,b,d,q1⟩) hf
noncomputable def adB(i:Nat)(c:TE)(d:TIp):TS:=λD σ H=>∃x,σ[i]?=some (some x)/\c σ H λy a=>d x y a λz b=>D.nx (σ.set i (some z)) b
theorem Xe{i:Nat}{x:Str}{e:Expr}{f:TE}{op:Operator}{g:TIp}{pos':Pos}(t:X.N.Nodup)(hi:X.N[i]?=some x)(b:Loc X.env.scope x)(B:PE X e f)(C:PIp X op g)(hf:X.fn x=true\/X.env.scope.names.lookup x=some .local:=by first|exact .inl rfl|exact .inr rfl|assumption):PS X (.AugAssign (.Name x pos') op e pos) (adB i f g):=by
 intro pins s σ H D I h;obtain⟨v,e1,h⟩:=h;obtain⟨m,hn,hl⟩:=I.loc;have K:Vis X.env.scope x:=by rcases b with k|k;exact .inl k;exact .inr (.inl k)
 obtain⟨u,r,l⟩:=hl i x v hi e1 K;refine wpAny_AugAssign_Name ?_;have go:wpAny (model X.prog X.w) X.A (eval e X.env) (λw G=>wpAny (model X.prog X.w) X.A (inplaceOp op u w) (λr J=>wpAny (model X.prog X.w) X.A (storeName X.env x r) (λ_=>SP X pins D .next) X.xe J) X.xe G) X.xe s:=by refine b9 (B pins s σ H _ I h) λw s1 d=>?_;obtain⟨y,j,o,E,q1⟩:=d;refine b9 (C pins s1 σ j v y u w _ o r E q1) λz s2 d=>?_;obtain⟨M,n,p,F,q2⟩:=d;exact iT p t hi b F (λL q=>⟨_,n,q,q2⟩) hf
 rcases l with⟨a,hm⟩|⟨a,c,hc,A⟩;·exact wpAny_loadName_local I.ok.kind a hn hm go
 ·rcases a with a|a;·exact wpAny_loadName_cell I.ok.kind a hc A go
  ·rcases b with k|k;·have :X.env.scope.names.lookup x=some .free:=a;rw[k]at this;cases this
   ·have :X.env.scope.names.lookup x=some .free:=a;rw[k]at this;cases this
noncomputable def ipI(f:Int->Int->Int):TIp:=λx y H Q=>∃i j,x= .int i/\y= .int j/\Q (.int (f i j)) H
theorem XZ:PIp X .Add (ipI λi j=>i+j):=by intro pins s σ H x y v u Q I a b h;obtain⟨i,j,e1,e2,q⟩:=h;subst e1;subst e2;obtain⟨t,rfl⟩:=a;obtain⟨t',rfl⟩:=b;exact iadd_int ⟨.int _,H,I.tok _,⟨_,rfl⟩,q⟩
end
section
variable{X:Cx}{pos:Pos}
noncomputable def Xr(c:TT)(tb:TS):TS:=λD σ H=>∃W:Nat->St->Hp->Prop,(∃m,W m σ H)/\∀m σ H,W m σ H->c σ H λb a=>if b=true then∃N:St->Hp->Prop,(∀e H',N e H'->∃d,d<m/\W d e H')/\tb {D with nx:=N,ct:=N,bk:=D.nx} σ a else D.nx σ a
theorem Qy{c:Expr}{body:List Stmt}{r:TT}{tb:TS}(q:PassesOwn (model X.prog X.w) X.A X.env X.xe)(hc:PT X c r)(hb:iO X body tb):PS X (.While c body [] pos) (Xr r tb):=by
 intro pins s σ H D I h;obtain⟨W,⟨w,w0⟩,turn⟩:=h;refine wpAny_While (codeAny_whileLoop (λn s'=>∃t H',Inv X pins t H' s'/\W n t H') ?_ w ⟨σ,H,I,w0⟩);rintro n s1⟨e,l,u,w1⟩;refine wpAny_passesOwn q (b9 (hc pins s1 e l _ u (turn n e l w1)) λb s2 x=>?_);obtain⟨m,o,q2⟩:=x;cases b with
  |true=>obtain⟨N,p,q2⟩:=q2;rw[if_pos rfl];refine wpAny_passesOwn q (b9 (hb pins s2 e m _ o q2) λf y q3=>?_);cases f with|next=>obtain⟨d,a,g,j⟩:=q3;obtain⟨i,hm,k⟩:=p d a j;exact⟨i,hm,d,a,g,k⟩|cont=>obtain⟨d,a,g,j⟩:=q3;obtain⟨i,hm,k⟩:=p d a j;exact⟨i,hm,d,a,g,k⟩|brk=>exact q3|ret v=>exact q3
  |false=>rw[if_neg fg];exact wpAny_execs_nil ⟨e,m,o,q2⟩
end
structure It where
 go:Nat->Hp->Prop
 yW:Nat->Hp->V->Hp->Prop
 stop:Nat->Hp->Prop
noncomputable def m9(X:Cx)(pins:List (Addr×Obj))(H:Hp)(b:Addr):Prop:=H b=none/\b≠X.env.locals/\b∉X.fs/\(b∈X.ex\/X.cD.heap.objs.size<=b)/\(∀x c,X.env.cells.lookup x=some c->c≠b)/\∀p∈X.pn++pins,p.1≠b
theorem Inv.Uy{X:Cx}{pins:List (Addr×Obj)}{σ:St}{H H':Hp}{s:Shared}{b:Addr}(I:Inv X pins σ H s)(hb:s.heap.objs.size<=b)(hn:H' b=none):m9 X pins H' b:=by
 refine⟨hn,Nat.ne_of_gt (gP I.lt hb),I.aeK hb, .inr (dJ I.sz hb),λx c e z=>?_,λp a z=>?_⟩;·obtain⟨v,q⟩:=I.cell x c e;exact absurd (gP q.lt (by rw[z];exact hb)) (Nat.lt_irrefl _)
 ·exact absurd (gP (b_ (I.pin p a).1) (by rw[z];exact hb)) (Nat.lt_irrefl _)
structure Turn(P:Program)(w:World)(K:PySem.W.Frag)(tg:Expr)(J:It)(fp:List Addr)(it:Addr)(tn:Nat->Heap->Prop):Prop where
 mem:it∈fp
 obj:∀i h,tn i h->∀b∈fp,∃o,h.get? b=some o/\∀v,o.data≠ .cell v
 keep:∀i h h',tn i h->(∀b∈fp,∀o,h.get? b=some o->h'.get? b=some o)->tn i h'
 item:∀(X:Cx),X.prog=P->X.w=w->X.K=K->X.calm=true->∀(i:Nat)(pins:List (Addr×Obj))(s:Shared)(σ:St)(H:Hp)(E:Value->Shared->Prop),Inv X pins σ H s->(∀b∈fp,m9 X pins H b)->tn i s.heap->J.go i H->wpAny (model P w) X.A (pyNext (.ref it)) (λr s1=>∃u,r=some u/\wpAny (model P w) X.A (letOwnedTupleGo tg (.ref it) u) (λ_ s2=>∃x H',Inv X pins σ H' s2/\RelV x u/\J.yW i H x H'/\tn (i+1) s2.heap/\∀b∈fp,H' b=none) E s1) E s
 done:∀(X:Cx),X.prog=P->X.w=w->X.K=K->X.calm=true->∀(i:Nat)(pins:List (Addr×Obj))(s:Shared)(σ:St)(H:Hp)(E:Value->Shared->Prop),Inv X pins σ H s->(∀b∈fp,m9 X pins H b)->tn i s.heap->J.stop i H->wpAny (model P w) X.A (pyNext (.ref it)) (λr s1=>r=none/\Inv X pins σ H s1) E s
 self:∀(A:Around)(i:Nat)(s:Shared)(Q:Value->Shared->Prop)(E:Value->Shared->Prop),tn i s.heap->Q (.ref it) s->wpAny (model P w) A (pyIter (.ref it)) Q E s
noncomputable abbrev TI:=St->Hp->(It->Hp->Prop)->Prop
noncomputable def PIE(X:Cx)(pins:List (Addr×Obj))(σ:St)(tg:Expr)(R:It->Hp->Prop)(a:Value)(s2:Shared):Prop:=∃(it:Addr)(fp:List Addr)(tn:Nat->Heap->Prop)(J:It)(H':Hp),a= .ref it/\Inv X pins σ H' s2/\Turn X.prog X.w X.K tg J fp it tn/\tn 0 s2.heap/\(∀b∈fp,m9 X pins H' b)/\R J H'
noncomputable def PI(X:Cx)(tg iter:Expr)(a:TI):Prop:=∀(pins:List (Addr×Obj))(s:Shared)(σ:St)(H:Hp)(R:It->Hp->Prop),Inv X pins σ H s->a σ H R->wpAny (model X.prog X.w) X.A (eval iter X.env) (λv s1=>wpAny (model X.prog X.w) X.A (pyIter v) (PIE X pins σ tg R) X.xe s1) X.xe s
theorem NX{M:Model}{A:Around}{E:Value->Shared->Prop}{s:Shared}{tg:Expr}{it:Addr}{u:Value}{o:Obj}{n:String}{vs:Array Value}{Q:Unit->Shared->Prop}(b:s.heap.get? it=some o)(hc:o.cls= .type n)(hd:o.data= .fields vs)(hn:["enumerate","zip","dict_itemiterator","dict_reverseitemiterator","odict_iterator","itertools.zip_longest","itertools.pairwise"].contains n=false)(a:Q () s):wpAny M A (letOwnedTupleGo tg (.ref it) u) Q E s:=by unfold letOwnedTupleGo;cases tg<;>first|exact bA a|(cases u<;>first|exact bA a|(refine az (wpAny_load b ?_);rw[hc,hd];show wpAny M A (if(["enumerate","zip","dict_itemiterator","dict_reverseitemiterator","odict_iterator","itertools.zip_longest","itertools.pairwise"].contains n&&vs[0]?==some (rawInt _))=true then _ else _) Q E s;rw[if_neg (by intro h;rw[hn,Bool.false_and]at h;cases h)];exact bA a))
noncomputable def Itl(K:PySem.W.Frag)(a:Addr):It:=⟨λi H=>∃xs x,bE K H a xs/\xs[i]?=some x,λi H x H'=>H'=H/\∀xs,bE K H a xs->xs[i]?=some x,λi H=>∃xs,bE K H a xs/\xs.length<=i⟩
noncomputable def Itt(K:PySem.W.Frag)(a:Addr):It:=⟨λi H=>∃xs x,bU K H a xs/\xs[i]?=some x,λi H x H'=>H'=H/\∀xs,bU K H a xs->xs[i]?=some x,λi H=>∃xs,bU K H a xs/\xs.length<=i⟩
noncomputable def Itr(lo:Int)(n:Nat):It:=⟨λi _=>i<n,λi H x H'=>H'=H/\x= .int (lo+i),λi _=>n<=i⟩
theorem M5{P:Program}{w:World}{K:PySem.W.Frag}{tg:Expr}(a it:Addr):Turn P w K tg (Itl K a) [it] it (λi h=>h.IsListIter it a i)where
 mem:=by simp
 obj:=λi h st b hb=>by
  have e:b=it:=by simpa using hb
  subst e;obtain⟨o,e,c,d⟩:=st;exact⟨o,e,λv z=>by rw[d]at z;cases z⟩
 keep:=λi h h' st k=>st.at λo e=>k it (by simp) o e;item:=by intro X n hw m hc i pins s σ H E I hf st q;subst n hw m;obtain⟨xs,x,hq,r⟩:=q;obtain⟨G,t,p,F⟩:=I.list hq;obtain⟨u,C,J⟩:=t.get r;obtain⟨j,f1,f2,f,l,g⟩:=hf it (by simp);refine wpAny_pyNext_list_item st p.isList (x:=u) (by simpa using C) λh' y sb=>?_;have A:Inv X pins σ H {s with heap:=h'}:=I.turned (t':=s.toks) (λb o hb e=>(sb.2 b hb).trans e) j f1 f l g;obtain⟨o,e,c,d⟩:=id y;exact⟨u,rfl,NX (s:={s with heap:=h'}) e c d (by decide) ⟨x,H,A,J,⟨rfl,λL D=>by rw[I.xB D hq];exact r⟩,y,λb hb=>(hf b hb).1⟩⟩
 done:=by intro X n hw m hc i pins s σ H E I hf st q;subst n hw m;obtain⟨xs,hq,r⟩:=q;obtain⟨G,t,p,F⟩:=I.list hq;obtain⟨j,f1,f2,f,l,g⟩:=hf it (by simp);have hl:=t.length;exact ll (I.hb hc) (I.hna hc f g) st p.isList (by simp;lia) λh' B=>⟨rfl,I.turned (t':=s.toks) (λb o hb e=>B b o hb e) j f1 f l g⟩
 self:=λ_ _ _ _ _ st h=>wpAny_pyIter_listiter st h
theorem F_{P:Program}{w:World}{K:PySem.W.Frag}{tg:Expr}(a it:Addr):Turn P w K tg (Itt K a) [it] it (λi h=>h.IsTupleIter it a i)where
 mem:=by simp
 obj:=λi h st b hb=>by
  have e:b=it:=by simpa using hb
  subst e;obtain⟨o,e,c,d⟩:=st;exact⟨o,e,λv z=>by rw[d]at z;cases z⟩
 keep:=λi h h' st k=>st.at λo e=>k it (by simp) o e;item:=by intro X n hw m hc i pins s σ H E I hf st q;subst n hw m;obtain⟨xs,x,hq,r⟩:=q;obtain⟨t,y,p,G⟩:=I.tuple hq;obtain⟨u,D,J⟩:=y.get r;obtain⟨j,f1,f2,f,l,g⟩:=hf it (by simp);refine wpAny_pyNext_tuple_item st (show s.heap.IsTuple a t.toArray from p) (x:=u) (by simpa using D) λh' A sb=>?_;have B:Inv X pins σ H {s with heap:=h'}:=I.turned (t':=s.toks) (λb o hb e=>(sb.2 b hb).trans e) j f1 f l g;obtain⟨o,e,c,d⟩:=id A;exact⟨u,rfl,NX (s:={s with heap:=h'}) e c d (by decide) ⟨x,H,B,J,⟨rfl,λL F=>by rw[I.Mn F hq];exact r⟩,A,λb hb=>(hf b hb).1⟩⟩
 done:=by intro X n hw m hc i pins s σ H E I hf st q;subst n hw m;obtain⟨xs,hq,r⟩:=q;obtain⟨t,y,p,G⟩:=I.tuple hq;obtain⟨j,f1,f2,f,l,g⟩:=hf it (by simp);have hl:=y.length;exact next_tuple_end (I.hb hc) (I.hna hc f g) st (show s.heap.IsTuple a t.toArray from p) (by simp;lia) λh' C=>⟨rfl,I.turned (t':=s.toks) (λb o hb e=>C b o hb e) j f1 f l g⟩
 self:=λ_ _ _ _ _ st h=>wpAny_pyIter_tupleiter st h
theorem Fz{P:Program}{w:World}{K:PySem.W.Frag}{tg:Expr}(it:Addr)(lo:Int)(n:Nat):Turn P w K tg (Itr lo n) [it] it (λi h=>IsRangeIter h it (lo+(i:Nat)*1) ((n:Int)-(i:Nat)) 1)where
 mem:=by simp
 obj:=λi h st b hb=>by
  have e:b=it:=by simpa using hb
  subst e;exact⟨_,st,λv z=>by have x:Data.fields _=Data.cell v:=z;cases x⟩
 keep:=λi h h' st k=>k it (by simp) _ st;item:=by intro X j hw g hc i pins s σ H E I hf st l;subst j hw g;obtain⟨a,f1,f2,c,d,f⟩:=hf it (by simp);refine Gi l st λv h' tk r m u=>?_;obtain⟨t,rfl⟩:=r;have p:Inv X pins σ H {s with heap:=h',toks:=tk}:=I.turned (λb o hb e=>u b o (by simpa using hb) e) a f1 c d f;refine⟨_,rfl,NX (s:={s with heap:=h',toks:=tk}) (n:="range_iterator") m rfl rfl (by decide) ⟨.int (lo+i),H,p,⟨t,?_⟩,⟨rfl,rfl⟩,m,λb hb=>(hf b hb).1⟩⟩;rw[Int.mul_one]
 done:=by intro X j hw g hc i pins s σ H E I hf st l;subst j hw g;obtain⟨a,f1,f2,c,d,f⟩:=hf it (by simp);exact yo (I.hb hc) st (by have :n<=i:=l;lia) λh' q=>⟨rfl,I.turned (t':=s.toks) (λb o hb e=>q b o hb e) a f1 c d f⟩
 self:=λ_ _ _ _ _ st h=>wpAny_pyIter_rangeiter st h
section
variable{X:Cx}{tg:Expr}
noncomputable def WQ(K:PySem.W.Frag)(c:TE):TI:=λσ H R=>c σ H λx b=>∃a,x= .ref a/\(∃xs,bE K b a xs)/\R (Itl K a) b
noncomputable def acL(K:PySem.W.Frag)(c:TE):TI:=λσ H R=>c σ H λx b=>∃a,x= .ref a/\(∃xs,bU K b a xs)/\R (Itt K a) b
theorem gm{l:Expr}{d:TE}(hl:PE X l d):PI X tg l (WQ X.K d):=by
 intro pins s σ H R I h;refine b9 (hl pins s σ H _ I h) λv s1 i=>?_;obtain⟨x,f,c,g,q1⟩:=i;obtain⟨a,e,⟨xs,hq⟩,q⟩:=q1;subst e;cases g;obtain⟨k,m,p,j⟩:=c.list hq;refine wpAny_pyIter_list p.isList ?_;refine⟨s1.heap.objs.size,[s1.heap.objs.size],_,_,f,rfl,c.kept (t':=s1.toks) λb o e=>cf _ e,M5 a _,⟨_,gj _ rfl,rfl,rfl⟩,λb hb=>?_,q⟩;have e:b=s1.heap.objs.size:=by simpa using hb
 subst e;exact c.Uy (bN _) (c.cj.fresh (bN _))
theorem AL{l:Expr}{d:TE}(hl:PE X l d):PI X tg l (acL X.K d):=by
 intro pins s σ H R I h;refine b9 (hl pins s σ H _ I h) λv s1 j=>?_;obtain⟨x,f,c,i,q1⟩:=j;obtain⟨a,e,⟨xs,hq⟩,q⟩:=q1;subst e;cases i;obtain⟨g,m,p,k⟩:=c.tuple hq;refine wpAny_pyIter_tuple (show s1.heap.IsTuple a g.toArray from p) ?_;refine⟨s1.heap.objs.size,[s1.heap.objs.size],_,_,f,rfl,c.kept (t':=s1.toks) λb o e=>cf _ e,F_ a _,⟨_,gj _ rfl,rfl,rfl⟩,λb hb=>?_,q⟩;have e:b=s1.heap.objs.size:=by simpa using hb
 subst e;exact c.Uy (bN _) (c.cj.fresh (bN _))
theorem Nm{pins:List (Addr×Obj)}{σ:St}{H:Hp}{s:Shared}{R:It->Hp->Prop}{E:Value->Shared->Prop}{lo hi:Int}{t u v:Tok}{tk:Nat}(I:Inv X pins σ H s)(h1:-(2^62)<=lo)(h2:lo<2^62)(h3:-(2^62)<=hi)(h4:hi<2^62)(q:R (Itr lo (hi-lo).toNat) H):wpAny (model X.prog X.w) X.A (pyIter (.ref s.heap.objs.size)) (PIE X pins σ tg R) E {s with heap:=s.heap.push {cls:= .type "range",data:= .fields #[.int lo t, .int hi u, .int 1 v]},toks:=tk}:=by
 refine wpAny_pyIter_range (IsRange.new ..) (small_one h1 h2 h3 h4) ?_;have a:Inv X pins σ H {s with heap:=s.heap.push {cls:= .type "range",data:= .fields #[.int lo t, .int hi u, .int 1 v]},toks:=tk}:=I.kept λb o e=>cf _ e;refine⟨(s.heap.push {cls:= .type "range",data:= .fields #[.int lo t, .int hi u, .int 1 v]}).objs.size,[(s.heap.push {cls:= .type "range",data:= .fields #[.int lo t, .int hi u, .int 1 v]}).objs.size],_,_,H,rfl,a.kept (t':=tk) λb o e=>cf _ e,Fz _ lo (hi-lo).toNat,?_,λb hb=>?_,q⟩
 ·have e1:lo+((0:Nat):Int)*1=lo:=by simp
  have e2:(((hi-lo).toNat:Nat):Int)-((0:Nat):Int)=Builtin.Range.rangeSize lo hi 1:=by rw[rangeSize_one];split<;>lia
  show IsRangeIter _ _ (lo+((0:Nat):Int)*1) ((((hi-lo).toNat:Nat):Int)-((0:Nat):Int)) 1;rw[e1,e2];exact gj _ rfl
 ·have e:b=(s.heap.push {cls:= .type "range",data:= .fields #[.int lo t, .int hi u, .int 1 v]}).objs.size:=by simpa using hb
  subst e;exact a.Uy (bN _) (a.cj.fresh (bN _))
noncomputable def aa5(b:TA):TI:=λσ H R=>b σ H λvs a=>∃j:Int,vs=[.int j]/\-(2^62)<=j/\j<2^62/\R (Itr 0 j.toNat) a
theorem eR{a:Expr}{c:TA}{p b:Pos}(f:Gl X "range")(hm:X.mg "range"=none)(ha:PA X [a] c)(g:starEach [a] X.env=[(false,eval a X.env)]:=by rfl):PI X tg (.Call (.Name "range" p) [a] [] b) (aa5 c):=by intro pins s σ H R I h;refine Call_ (pd I f hm boot_range (PyProof.Rows.callWith_type1 (b9 (ha b pins s σ H _ I h) λus s1 k=>?_) g rfl));obtain⟨vs,l,d,i,q1⟩:=k;obtain⟨j,e,q1,q2,q⟩:=q1;subst e;cases i with|cons r rr=>cases rr;obtain⟨t,rfl⟩:=r;exact call_range_1 (Nm d (by lia) (by lia) q1 q2 (by simpa using q))
noncomputable def aep(e:TI)(g:TG)(tb:TS):TS:=λD σ H=>e σ H λJ c=>∃W:Nat->Nat->St->Hp->Prop,(∃m,W 0 m σ c)/\∀i m σ H,W i m σ H->(J.stop i H/\D.nx σ H)\/(J.go i H/\∃N:St->Hp->Prop,(∀b H',N b H'->∃a,a<m/\W (i+1) a b H')/\∀x H',J.yW i H x H'->g x σ H' λf d=>tb {D with nx:=N,ct:=N,bk:=D.nx} f d)
noncomputable def oH(fp:List Addr)(h:Heap):List (Addr×Obj):=fp.filterMap λb=>(h.get? b).map λo=>(b,o)
theorem fB{fp:List Addr}{h:Heap}{b:Addr}{o:Obj}(hb:b∈fp)(e:h.get? b=some o):(b,o)∈oH fp h:=List.mem_filterMap.mpr ⟨b,hb,by rw[e];rfl⟩
theorem MD{fp:List Addr}{h:Heap}{p:Addr×Obj}(a:p∈oH fp h):p.1∈fp/\h.get? p.1=some p.2:=by obtain⟨b,hb,e⟩:=List.mem_filterMap.mp a;cases q:h.get? b with|none=>rw[q]at e;cases e|some o=>rw[q]at e;have e':(b,o)=p:=Option.some.inj e;subst e';exact⟨hb,q⟩
theorem Inv.pinned{pins:List (Addr×Obj)}{σ:St}{H:Hp}{s:Shared}{fp:List Addr}(I:Inv X pins σ H s)(hf:∀b∈fp,m9 X pins H b)(c:∀b∈fp,∃o,s.heap.get? b=some o/\∀v,o.data≠ .cell v):Inv X (pins++oH fp s.heap) σ H s:=I.tj λp f=>(List.mem_append.mp f).elim (λz=>I.pin p (jR _ z)) λz=>by obtain⟨hb,e⟩:=MD z;obtain⟨a,f1,f2,_⟩:=hf p.1 hb;obtain⟨o,e',d⟩:=c p.1 hb;rw[e]at e';cases e';exact⟨e,a,f1,f2,d⟩
theorem Inv.j9{pins pl:List (Addr×Obj)}{σ:St}{H:Hp}{s:Shared}(I:Inv X (pins++pl) σ H s):Inv X pins σ H s:=I.tj λp a=>I.pin p (jR _ (oU _ a))
theorem fk{iter:Expr}{body:List Stmt}{O:TI}{g:TG}{tb:TS}{pos:Pos}(p:PassesOwn (model X.prog X.w) X.A X.env X.xe)(hc:X.calm=true)(hi:PI X tg iter O)(hg:PG X tg g)(hb:iO X body tb)(hs:∀x,foldedSetIterable iter X.env x=pure x:=by intro _;rfl):PS X (.For tg iter body [] pos) (aep O g tb):=by
 intro pins s σ H D I h;refine wpAny_For (b9 (hi pins s σ H _ I h) λv s1 h1=>b9 h1 λitv s2 h2=>?_) hs;obtain⟨it,fp,tn,J,P,e,R,T,XJ,f2,W,⟨m0,w0⟩,turn⟩:=h2;subst e;have C:∀{H':Hp},(∀b∈fp,H' b=none)->∀b∈fp,m9 X pins H' b:=λhn b hb=>⟨hn b hb,(f2 b hb).2⟩;refine codeAny_forLoop_any (λn s'=>∃i t H',Inv X pins t H' s'/\tn i s'.heap/\(∀b∈fp,H' b=none)/\W i n t H') ?_ m0 ⟨0,σ,P,R,XJ,λb hb=>(f2 b hb).1,w0⟩;rintro n K⟨i,w,y,F,M,G,w3⟩;rcases turn i n w y w3 with⟨stop,qn⟩|⟨go,N,hN,step⟩;·refine wpAny_passesOwn p (b9 (T.done X rfl rfl rfl hc i pins K w y X.xe F (C G) M stop) λr s4 l=>?_);obtain⟨z,S⟩:=l;subst z;exact wpAny_execs_nil ⟨w,y,S,qn⟩
 ·refine wpAny_passesOwn p (b9 (T.item X rfl rfl rfl hc i pins K w y X.xe F (C G) M go) λr s4 l=>?_);obtain⟨u,z,h4⟩:=l;subst z;refine wpAny_passesOwn p (b9 h4 λ_ L l=>?_);obtain⟨x,E,U,r5,y5,B,Z⟩:=l;have V:=U.pinned (C Z) (T.obj _ _ B);refine wpAny_passesOwn p (b9 (hg _ L w E x u _ V r5 (step x E y5)) λ_ s6 l=>?_);obtain⟨σ6,Q,Y,q6⟩:=l;refine wpAny_passesOwn p (b9 (hb _ s6 σ6 Q _ Y q6) λf A k=>?_);have again:∀{j:St}{a:Hp},Inv X (pins++oH fp L.heap) j a A->N j a->∃m,m<n/\∃i t H',Inv X pins t H' A/\tn i A.heap/\(∀b∈fp,H' b=none)/\W i m t H':=λ{j a}c q=>by obtain⟨m',hm,w7⟩:=hN j a q;refine⟨m',hm,i+1,j,a,c.j9,T.keep _ _ _ B λb hb o e=>(c.pin (b,o) (jR _ (jR _ (fB hb e)))).1,λb hb=>?_,w7⟩;obtain⟨o,e,d⟩:=T.obj _ _ B b hb;exact(c.pin (b,o) (jR _ (jR _ (fB hb e)))).2.1
  cases f with|next=>obtain⟨j,a,c,q⟩:=k;exact again c q|cont=>obtain⟨j,a,c,q⟩:=k;exact again c q|brk=>obtain⟨j,a,c,k⟩:=k;exact⟨j,a,c.j9,k⟩|ret v=>obtain⟨x7,j,a,c,r7,k⟩:=k;exact⟨x7,j,a,c.j9,r7,k⟩
end
theorem Rh{K:PySem.W.Frag}{a:Addr}{xs:List V}{g:TG}{tb:TS}{D:Ends}{σ:St}{H:Hp}(Pv:Nat->St->Hp->Prop)(j:Pv 0 σ H)(hl:∀i σ H,i<=xs.length->Pv i σ H->bE K H a xs)(k:∀i x σ H,xs[i]?=some x->Pv i σ H->g x σ H λd b=>tb {D with nx:=Pv (i+1),ct:=Pv (i+1),bk:=D.nx} d b)(hd:∀σ H,Pv xs.length σ H->D.nx σ H):∃W:Nat->Nat->St->Hp->Prop,(∃m,W 0 m σ H)/\∀i m σ H,W i m σ H->((Itl K a).stop i H/\D.nx σ H)\/((Itl K a).go i H/\∃N:St->Hp->Prop,(∀c H',N c H'->∃h,h<m/\W (i+1) h c H')/\∀x H',(Itl K a).yW i H x H'->g x σ H' λd b=>tb {D with nx:=N,ct:=N,bk:=D.nx} d b):=by
 refine⟨λi m σ H=>m=xs.length-i/\i<=xs.length/\Pv i σ H,⟨xs.length,by simp,fW _,j⟩,?_⟩;rintro i m σ H⟨rfl,hi,p⟩;have q:=hl i σ H hi p;by_cases f:i<xs.length;·refine .inr ⟨⟨xs,xs[i],q,by simp[f]⟩,Pv (i+1),λc H' l=>⟨xs.length-(i+1),by lia,rfl,f,l⟩,λx H' y=>?_⟩;obtain⟨e,y⟩:=y;subst e;exact k i x σ _ (y xs q) p
 ·have e:i=xs.length:=by lia
  subst e;exact .inl ⟨⟨xs,q,bN _⟩,hd σ H p⟩
theorem Lv{lo:Int}{n:Nat}{g:TG}{tb:TS}{D:Ends}{σ:St}{H:Hp}(Pv:Nat->St->Hp->Prop)(h:Pv 0 σ H)(j:∀i σ H,i<n->Pv i σ H->g (.int (lo+i)) σ H λd a=>tb {D with nx:=Pv (i+1),ct:=Pv (i+1),bk:=D.nx} d a)(hd:∀σ H,Pv n σ H->D.nx σ H):∃W:Nat->Nat->St->Hp->Prop,(∃m,W 0 m σ H)/\∀i m σ H,W i m σ H->((Itr lo n).stop i H/\D.nx σ H)\/((Itr lo n).go i H/\∃N:St->Hp->Prop,(∀c H',N c H'->∃f,f<m/\W (i+1) f c H')/\∀x H',(Itr lo n).yW i H x H'->g x σ H' λd a=>tb {D with nx:=N,ct:=N,bk:=D.nx} d a):=by
 refine⟨λi m σ H=>m=n-i/\i<=n/\Pv i σ H,⟨n,by simp,fW _,h⟩,?_⟩;rintro i m σ H⟨rfl,hi,p⟩;by_cases b:i<n;·refine .inr ⟨b,Pv (i+1),λc H' k=>⟨n-(i+1),by lia,rfl,b,k⟩,λx H' y=>?_⟩;obtain⟨e,y⟩:=y;subst e y;exact j i σ _ b p
 ·have e:i=n:=by lia
  subst e;exact .inl ⟨bN _,hd σ H p⟩
noncomputable abbrev R2:=V->V->Hp->VK->Prop
noncomputable def ke(X:Cx)(f:Value->Value->Sem Value)(r:R2):Prop:=∀(pins:List (Addr×Obj))(s:Shared)(σ:St)(H:Hp)(x y:V)(v u:Value)(Q:VK),Inv X pins σ H s->RelV x v->RelV y u->r x y H Q->wpAny (model X.prog X.w) X.A (f v u) (EP X pins σ Q) X.xe s
noncomputable def UnR(X:Cx)(f:Value->Sem Value)(r:V->Hp->VK->Prop):Prop:=∀(pins:List (Addr×Obj))(s:Shared)(σ:St)(H:Hp)(x:V)(v:Value)(Q:VK),Inv X pins σ H s->RelV x v->r x H Q->wpAny (model X.prog X.w) X.A (f v) (EP X pins σ Q) X.xe s
noncomputable def iL(X:Cx)(f:Value)(r:List V->Hp->VK->Prop):Prop:=∀(pins:List (Addr×Obj))(s:Shared)(σ:St)(H:Hp)(xs:List V)(us:List Value)(Q:VK),Inv X pins σ H s->Vals xs us->r xs H Q->wpAny (model X.prog X.w) X.A (call f us) (EP X pins σ Q) X.xe s
noncomputable def C1(r:R2)(c tb:TE):TE:=λσ H Q=>c σ H λx a=>tb σ a λy b=>r x y b Q
noncomputable def tUn(r:V->Hp->VK->Prop)(b:TE):TE:=λσ H Q=>b σ H λx a=>r x a Q
noncomputable def rI(C:Int->Int->Prop)(g:Int->Int->V):R2:=λx y H Q=>∃i j,x= .int i/\y= .int j/\C i j/\Q (g i j) H
noncomputable def WX(g:Int->Int->V):R2:=λx y H Q=>∃i j,x= .int i/\y= .int j/\Q (g i j) H
noncomputable def rU(g:Int->V):V->Hp->VK->Prop:=λx H Q=>∃i,x= .int i/\Q (g i) H
section
variable{X:Cx}{a b c:Expr}{ta tb tc:TE}{pos:Pos}
theorem X0(ha:PE X a ta)(hb:PE X b tb){pins:List (Addr×Obj)}{s:Shared}{σ:St}{H:Hp}{R:V->V->Hp->Prop}(I:Inv X pins σ H s)(h:ta σ H λx e=>tb σ e λy d=>R x y d){Q:Value->Shared->Prop}{f:Value->Value->Sem Value}(hf:∀v u s2 x y d,Inv X pins σ d s2->RelV x v->RelV y u->R x y d->wpAny (model X.prog X.w) X.A (f v u) Q X.xe s2):wpAny (model X.prog X.w) X.A (eval a X.env) (λv m=>wpAny (model X.prog X.w) X.A (eval b X.env) (λu n=>wpAny (model X.prog X.w) X.A (f v u) Q X.xe n) X.xe m) X.xe s:=by refine b9 (ha pins s σ H _ I h) λv s1 g=>?_;obtain⟨x,e,i,k,q1⟩:=g;refine b9 (hb pins s1 σ e _ i q1) λu s2 g=>?_;obtain⟨y,d,j,l,q2⟩:=g;exact hf v u s2 x y d j k l q2
theorem aJ{op:Operator}{r:R2}(f:ke X (binaryOp op) r)(ha:PE X a ta)(hb:PE X b tb):PE X (.BinOp a op b pos) (C1 r ta tb):=by intro pins s σ H Q I h;exact wpAny_BinOp (X0 ha hb I h λv u s2 x y d e g i q=>f pins s2 σ d x y v u Q e g i q)
theorem QT{op:UnaryOp}{r:V->Hp->VK->Prop}(f:UnR X (unaryOp op) r)(ha:PE X a ta):PE X (.UnaryOp op a pos) (tUn r ta):=by intro pins s σ H Q I h;exact UnaryOp_ (b9 (ha pins s σ H _ I h) λv s1⟨x,d,e,g,q1⟩=>f pins s1 σ d x v Q e g q1)
theorem opI{f:Value->Value->Sem Value}{C:Int->Int->Prop}{g:Int->Int->Int}(rule:∀(i j:Int)(t u:Tok)(s:Shared)(Q:Value->Shared->Prop)(E:Value->Shared->Prop),C i j->Q (.int (g i j) s.toks) {s with toks:=s.toks+1}->wpAny (model X.prog X.w) X.A (f (.int i t) (.int j u)) Q E s):ke X f (rI C λi j=> .int (g i j)):=by intro pins s σ H x y v u Q I d e h;obtain⟨i,j,rfl,rfl,hc,q⟩:=h;obtain⟨t,rfl⟩:=d;obtain⟨t',rfl⟩:=e;exact rule i j t t' s _ _ hc ⟨.int (g i j),H,I.tok _,⟨_,rfl⟩,q⟩
theorem acP{f:Value->Value->Sem Value}{g:Int->Int->Int}(rule:∀(i j:Int)(t u:Tok)(s:Shared)(Q:Value->Shared->Prop)(E:Value->Shared->Prop),Q (.int (g i j) s.toks) {s with toks:=s.toks+1}->wpAny (model X.prog X.w) X.A (f (.int i t) (.int j u)) Q E s):ke X f (WX λi j=> .int (g i j)):=by intro pins s σ H x y v u Q I d e h;obtain⟨i,j,rfl,rfl,q⟩:=h;obtain⟨t,rfl⟩:=d;obtain⟨t',rfl⟩:=e;exact rule i j t t' s _ _ ⟨.int (g i j),H,I.tok _,⟨_,rfl⟩,q⟩
theorem Tg{f:Value->Value->Sem Value}{g:Int->Int->Bool}(rule:∀(i j:Int)(t u:Tok)(s:Shared)(Q:Value->Shared->Prop)(E:Value->Shared->Prop),Q (.bool (g i j)) s->wpAny (model X.prog X.w) X.A (f (.int i t) (.int j u)) Q E s):ke X f (WX λi j=> .bl (g i j)):=by intro pins s σ H x y v u Q I d e h;obtain⟨i,j,rfl,rfl,q⟩:=h;obtain⟨t,rfl⟩:=d;obtain⟨t',rfl⟩:=e;exact rule i j t t' s _ _ ⟨.bl (g i j),H,I,rfl,q⟩
def ac2(i j:Int):Prop:=0<j/\j<1073741824
def ad_(i j:Int):Prop:=0<=j/\j<=1000000/\i.natAbs<2^64
def YX(i j:Int):Prop:=(-(2^64)<i/\i<2^64)\/(-(2^64)<j/\j<2^64)
theorem YX.ok{i j:Int}(h:YX i j):IntMulOk i j:=by
 rcases h with⟨h1,h2⟩|⟨h1,h2⟩;·exact .of_left (intBits_le_64 h1 h2)
 ·exact .of_right (intBits_le_64 h1 h2)
theorem bT:ke X (binaryOp .Add) (WX λi j=> .int (i+j)):=acP λ_ _ _ _ _ _ _ q=>add_int q
theorem bH:ke X (binaryOp .Sub) (WX λi j=> .int (i-j)):=acP λ_ _ _ _ _ _ _ q=>sub_int q
theorem CF:ke X (binaryOp .Mult) (rI YX λi j=> .int (i*j)):=opI λ_ _ _ _ _ _ _ hc q=>mul_int q hc.ok
theorem uu:ke X (binaryOp .FloorDiv) (rI ac2 λi j=> .int (i/j)):=opI λi j _ _ _ _ _ hc q=>by have h1:(0:Int)<j:=hc.1;have h2:j<1073741824:=hc.2;exact floordiv_int (by lia) (by rw[Int.fdiv_eq_ediv_of_nonneg i (by lia)];exact q) (.inl (PyProof.noPylong_small (by lia)))
theorem e9:ke X (binaryOp .Mod) (rI (λ_ j=>0<j) λi j=> .int (i%j)):=opI λi j _ _ _ _ _ hc q=>by have h1:(0:Int)<j:=hc;exact mod_int' (by lia) (by rw[Int.fmod_eq_emod_of_nonneg i (by lia)];exact q)
theorem Y1:ke X (binaryOp .Pow) (rI ad_ λi j=> .int (i^j.toNat)):=opI λ_ _ _ _ _ _ _ hc q=>pow_int_small hc.1 hc.2.1 hc.2.2 q
theorem unI{f:Value->Sem Value}{g:Int->Int}(rule:∀(i:Int)(t:Tok)(s:Shared)(Q:Value->Shared->Prop)(E:Value->Shared->Prop),Q (.int (g i) s.toks) {s with toks:=s.toks+1}->wpAny (model X.prog X.w) X.A (f (.int i t)) Q E s):UnR X f (rU λi=> .int (g i)):=by intro pins s σ H x v Q I d h;obtain⟨i,rfl,q⟩:=h;obtain⟨t,rfl⟩:=d;exact rule i t s _ _ ⟨.int (g i),H,I.tok _,⟨_,rfl⟩,q⟩
theorem FY:UnR X (unaryOp .USub) (rU λi=> .int (-i)):=unI λ_ _ _ _ _ q=>neg_int q
end
noncomputable def Yd:V->V->Bool| .a_, .a_=>true| .a_, .int _=>true| .int _, .a_=>true| .a_, .bl _=>true| .bl _, .a_=>true| .a_, .str _=>true| .str _, .a_=>true| .int _, .int _=>true| .bl _, .bl _=>true| .str _, .str _=>true| .Nd _, .Nd _=>true| .int _, .str _=>true| .str _, .int _=>true| .bl _, .str _=>true| .str _, .bl _=>true|_,_=>false
noncomputable def rEq:R2:=λx y H Q=>Yd x y=true/\Q (.bl (decide (x=y))) H
noncomputable def rNe:R2:=λx y H Q=>Yd x y=true/\Q (.bl (!decide (x=y))) H
theorem Jf{i j:Int}:decide (V.int i=V.int j)=(i==j):=by rw[Bool.eq_iff_iff];simp
theorem QH{i j:Bool}:decide (V.bl i=V.bl j)=(i==j):=by rw[Bool.eq_iff_iff];simp
theorem Jt{i j:Str}:decide (V.str i=V.str j)=(i==j):=by rw[Bool.eq_iff_iff];simp
theorem IS{i j:Array UInt8}:decide (V.Nd i=V.Nd j)=(i.toList==j.toList):=by rw[Bool.eq_iff_iff];cases i;cases j;simp
section
variable{X:Cx}{a b c:Expr}{ta tb tc:TE}{pos:Pos}
theorem bP{pins:List (Addr×Obj)}{σ:St}{H:Hp}{s:Shared}{Q:VK}{k d:Bool}(I:Inv X pins σ H s)(q:Q (.bl k) H)(e:k=d):EP X pins σ Q (.bool d) s:=by subst e;exact⟨.bl k,H,I,rfl,q⟩
theorem bQ:ke X (compareOp .Eq) rEq:=by
 intro pins s σ H x y v u Q I f d h;obtain⟨e,q⟩:=h;cases x with
  |a_=>cases f;cases y with|a_=>cases d;exact PySem.EqNone.eq_none_none (bP I q (by simp))|bl j=>cases d;exact PySem.EqNone.eq_none_bool (bP I q (by simp))|int j=>obtain⟨t',rfl⟩:=d;exact PySem.EqNone.eq_none_int (bP I q (by simp))|str j=>obtain⟨t',rfl⟩:=d;exact PySem.EqNone.eq_none_str (bP I q (by simp))|_=>exact absurd (show false=true from e) fg
  |bl i=>cases f;cases y with|a_=>cases d;exact PySem.EqNone.eq_bool_none (bP I q (by simp))|bl j=>cases d;exact eq_bool (bP I q QH)|str j=>obtain⟨t',rfl⟩:=d;exact PySem.EqMixed.eq_bool_str (bP I q (by simp))|_=>exact absurd (show false=true from e) fg
  |int i=>obtain⟨t,rfl⟩:=f;cases y with|a_=>cases d;exact PySem.EqNone.eq_int_none (bP I q (by simp))|int j=>obtain⟨t',rfl⟩:=d;exact eq_int (bP I q Jf)|str j=>obtain⟨t',rfl⟩:=d;exact PySem.EqMixed.eq_int_str (bP I q (by simp))|_=>exact absurd (show false=true from e) fg
  |str i=>obtain⟨t,rfl⟩:=f;cases y with|a_=>cases d;exact PySem.EqNone.eq_str_none (bP I q (by simp))|bl j=>cases d;exact PySem.EqMixed.eq_str_bool (bP I q (by simp))|int j=>obtain⟨t',rfl⟩:=d;exact PySem.EqMixed.eq_str_int (bP I q (by simp))|str j=>obtain⟨t',rfl⟩:=d;exact eq_str (bP I q Jt)|_=>exact absurd (show false=true from e) fg
  |Nd i=>obtain⟨t,rfl⟩:=f;cases y with|Nd j=>obtain⟨t',rfl⟩:=d;exact PySem.W.eq_bytes (bP I q IS)|_=>exact absurd (show false=true from e) fg
  |_=>cases y<;>exact absurd (show false=true from e) fg
theorem Qt:ke X (compareOp .NotEq) rNe:=by
 intro pins s σ H x y v u Q I f d h;obtain⟨e,q⟩:=h;cases x with
  |a_=>cases f;cases y with|a_=>cases d;exact PySem.EqNone.ne_none_none (bP I q (by simp))|bl j=>cases d;exact PySem.EqNone.ne_none_bool (bP I q (by simp))|int j=>obtain⟨t',rfl⟩:=d;exact PySem.EqNone.ne_none_int (bP I q (by simp))|str j=>obtain⟨t',rfl⟩:=d;exact PySem.EqNone.ne_none_str (bP I q (by simp))|_=>exact absurd (show false=true from e) fg
  |bl i=>cases f;cases y with|a_=>cases d;exact PySem.EqNone.ne_bool_none (bP I q (by simp))|bl j=>cases d;exact ne_bool (bP I q (congrArg not QH))|str j=>obtain⟨t',rfl⟩:=d;exact PySem.EqMixed.ne_bool_str (bP I q (by simp))|_=>exact absurd (show false=true from e) fg
  |int i=>obtain⟨t,rfl⟩:=f;cases y with|a_=>cases d;exact PySem.EqNone.ne_int_none (bP I q (by simp))|int j=>obtain⟨t',rfl⟩:=d;exact ne_int (bP I q (congrArg not Jf))|str j=>obtain⟨t',rfl⟩:=d;exact PySem.EqMixed.ne_int_str (bP I q (by simp))|_=>exact absurd (show false=true from e) fg
  |str i=>obtain⟨t,rfl⟩:=f;cases y with|a_=>cases d;exact PySem.EqNone.ne_str_none (bP I q (by simp))|bl j=>cases d;exact PySem.EqMixed.ne_str_bool (bP I q (by simp))|int j=>obtain⟨t',rfl⟩:=d;exact PySem.EqMixed.ne_str_int (bP I q (by simp))|str j=>obtain⟨t',rfl⟩:=d;exact ne_str (bP I q (congrArg not Jt))|_=>exact absurd (show false=true from e) fg
  |Nd i=>obtain⟨t,rfl⟩:=f;cases y with|Nd j=>obtain⟨t',rfl⟩:=d;exact PySem.W.ne_bytes (bP I q (congrArg not IS))|_=>exact absurd (show false=true from e) fg
  |_=>cases y<;>exact absurd (show false=true from e) fg
theorem kH:ke X (compareOp .Lt) (WX λi j=> .bl (decide (i<j))):=Tg λ_ _ _ _ _ _ _ q=>lt_int q
theorem VL:ke X (compareOp .LtE) (WX λi j=> .bl (decide (i<=j))):=Tg λ_ _ _ _ _ _ _ q=>le_int q
theorem lJ:ke X (compareOp .Gt) (WX λi j=> .bl (decide (j<i))):=Tg λ_ _ _ _ _ _ _ q=>gt_int q
theorem Vv:ke X (compareOp .GtE) (WX λi j=> .bl (decide (j<=i))):=Tg λ_ _ _ _ _ _ _ q=>ge_int q
theorem RL:ke X (compareOp .Is) (λx y H Q=>y= .a_/\Q (.bl (decide (x= .a_))) H):=by intro pins s σ H x y v u Q I d e h;obtain⟨rfl,q⟩:=h;cases e;refine is_none_gen (bP I q ?_);cases x<;>first|(cases d;rfl)|(obtain⟨t,rfl⟩:=d;rfl)
theorem TU:ke X (compareOp .IsNot) (λx y H Q=>y= .a_/\Q (.bl (!decide (x= .a_))) H):=by intro pins s σ H x y v u Q I d e h;obtain⟨rfl,q⟩:=h;cases e;refine isnot_none_gen (bP I q ?_);cases x<;>first|(cases d;rfl)|(obtain⟨t,rfl⟩:=d;rfl)
theorem aR(b:Expr){op:CmpOp}(h:op≠ .In:=by decide)(h2:op≠ .NotIn:=by decide):behindInMarks op b=false:=by
 have e1:(op==CmpOp.In)=false:=by cases op<;>first|rfl|exact absurd rfl h
 have e2:(op==CmpOp.NotIn)=false:=by cases op<;>first|rfl|exact absurd rfl h2
 cases b<;>simp[behindInMarks,e1,e2]
theorem nF{op:CmpOp}{r:R2}(f:ke X (compareOp op) r)(ha:PE X a ta)(hb:PE X b tb)(hm:behindInMarks op b=false):PE X (.Compare a [op] [b] pos) (C1 r ta tb):=by intro pins s σ H Q I h;exact wpAny_Compare1 (X0 ha hb I h λv u s2 x y d e g i q=>f pins s2 σ d x y v u Q e g i q) hm
noncomputable def Vm(t:TE):TT:=λσ H Q=>t σ H λx H'=>∃k,x= .bl k/\Q k H'
theorem aA{op:CmpOp}{r:R2}(m:ke X (compareOp op) r)(ha:PE X a ta)(hb:PE X b tb)(hm:behindInMarks op b=false):PT X (.Compare a [op] [b] pos) (Vm (C1 r ta tb)):=by intro pins s σ H Q I h;refine wpAny_isTrue_Compare1 (b9 (ha pins s σ H _ I h) λv s1⟨x,d,i,n,q1⟩=>b9 (hb pins s1 σ d _ i q1) λu s2⟨y,f,j,o,q2⟩=>b9 (m pins s2 σ f x y v u _ j n o q2) λc q⟨z,g,l,p,k,e,q3⟩=>?_) hm;subst e;cases p;exact wpAny_truthy_bool ⟨g,l,q3⟩
noncomputable def aak(r h:R2)(ta tb tc:TE):TE:=λσ H Q=>ta σ H λx e=>tb σ e λy f=>r x y f λz d=>∃k,z= .bl k/\(if k=true then tc σ d λi g=>h y i g Q else Q (.bl false) d)
theorem Oz{op f:CmpOp}{r j:R2}(B:ke X (compareOp op) r)(C:ke X (compareOp f) j)(ha:PE X a ta)(hb:PE X b tb)(hc:PE X c tc)(hm:lastMarks [op,f] [b,c]=false:=by with_unfolding_all rfl):PT X (.Compare a [op,f] [b,c] pos) (Vm (aak r j ta tb tc)):=by intro pins s σ H Q I h;refine isTrue_chain (b9 (ha pins s σ H _ I h) λv s1⟨x,m,q,F,q1⟩=>test_link (b9 (hb pins s1 σ m _ q q1) λu s2⟨y,n,t,l,q2⟩=>b9 (B pins s2 σ n x y v u _ t F l q2) λd L⟨z,g,i,G,k,e,q3⟩=>?_)) hm;subst e;cases G;refine wpAny_truthy_bool ?_;cases k with|false=>obtain⟨R,e',D⟩:=q3;cases e';exact ite_ff ⟨g,i,D⟩|true=>refine ite_tt (test_last (b9 (hc pins L σ g _ i q3) λN M⟨O,o,w,J,q4⟩=>b9 (C pins M σ o y O u N _ w l J q4) λd' S P=>?_));obtain⟨T,p,A,K,k2,e2,E⟩:=P;subst e2;cases K;exact wpAny_truthy_bool ⟨p,A,E⟩
theorem xG:(sizeLine:Nat)<2^63:=by rw[sizeLine_eq];decide
theorem cL:ke X (binaryOp .Add) (λx y H Q=>∃i j,x= .str i/\y= .str j/\i.length+j.length<=sizeLine/\Q (.str (i++j)) H):=by intro pins s σ H x y v u Q I e f h;obtain⟨i,j,rfl,rfl,d,q⟩:=h;obtain⟨t,rfl⟩:=e;obtain⟨t',rfl⟩:=f;exact add_str (λt' tk=>⟨.str (i++j),H,I.tok _,⟨_,rfl⟩,q⟩) d
theorem vals1{x:V}{us:List Value}(r:Vals [x] us):∃u,us=[u]/\RelV x u:=by cases r with|cons d e=>cases e;exact⟨_,rfl,d⟩
theorem MY:iL X (.type "int") (λxs H Q=>(∃i,xs=[.int i]/\Q (.int i) H)\/∃k,xs=[.bl k]/\Q (.int (if k then 1 else 0)) H):=by
 intro pins s σ H xs us Q I r h;rcases h with⟨i,rfl,q⟩|⟨k,rfl,q⟩;·obtain⟨u,rfl,t,rfl⟩:=vals1 r;exact call_int_int ⟨.int i,H,I,⟨_,rfl⟩,q⟩
 ·obtain⟨u,rfl,d⟩:=vals1 r;cases d;exact call_int_bool ⟨.int (if k then 1 else 0),H,I.tok _,⟨_,rfl⟩,q⟩
end
structure ZJ(h:Heap)(x dx C:Addr)(mA:Str->Option Value):Prop where
 obj:h.get? x=some (PySem.W.instObj C dx)
 ns:h.Ns1 dx mA
 ne:dx≠x
theorem My{h:Heap}{dx:Addr}{mA:Str->Option Value}(n:h.Ns1 dx mA):∃od,h.get? dx=some od/\∀name,PySem.W.lookIn name od=some (mA name):=by
 obtain⟨o,es,ep,f,hd,c,_,hm⟩:=n;refine⟨o,f,λname=>?_⟩;have e:=hm name;unfold nsFind findBy at e;rw[<-Array.find?_toList]at e;unfold PySem.W.lookIn;rw[hd];dsimp only;split;·rename_i y q;rw[q]at e;exact congrArg some e
 ·rename_i q;rw[q]at e;have a:es.toList.any (·.refKey)=false:=by rw[List.any_eq_false];intro y g;obtain⟨z,t,d⟩:=c y (Array.mem_toList_iff.mp g);simp[DictEntry.refKey,d]
  have b:¬es.toList.any (·.refKey)=true:=by rw[a];exact fg
  rw[if_neg b];exact congrArg some e
theorem ZJ.look{h:Heap}{x dx C:Addr}{mA:Str->Option Value}(I:ZJ h x dx C mA):∃od,PySem.W.InstAt h x (PySem.W.instObj C dx) C (some od)/\∀name,PySem.W.lookIn name od=some (mA name):=let⟨od,a,hl⟩:=My I.ns;⟨od,⟨I.obj,rfl,rfl,a⟩,hl⟩
section
variable{prog:Program}{w:World}{A:Around}{E:Value->Shared->Prop}{s:Shared}{K:PySem.W.Frag}{x dx C f:Addr}{mA:Str->Option Value}{name:Str}{v:Value}
end
theorem ze.some_of{v:V}{o:Option Value}(r:ze (some v) o):∃u,o=some u/\RelV v u:=by cases o with|none=>exact(show False from r).elim|some u=>exact⟨u,rfl,r⟩
section
variable{P:Program}{w:World}{H H':Hp}{h h':Heap}{a C dx:Addr}{fs fs':List (Str×V)}
theorem Ue(cj:jS P w H h)(e:H a=some (.ins C dx fs)):∃mA,ZJ h a dx C mA/\(∀f,ze (fs.lookup f) (mA f))/\PySem.Within mA (fs.map (·.1))/\fs.length<=1000/\H dx=some (.own a):=by obtain⟨d,z,ne,ob,mA,n,r,q⟩:=(show cK P w H h a (.ins C dx fs)from cj a _ e);exact⟨mA,⟨ob,n,ne⟩,r,q,z,d⟩
end
structure Cls(K:PySem.W.Frag)(C:Addr):Prop where
 pg:PySem.W.plainGet K C Str.empty=true
 hd:PySem.W.hasDictIn K C=true
 po:PySem.W.plainOver K C=true
 sa:PySem.W.findIn K (.ref C) "__setattr__"=some (some (.builtin "object.__setattr__"))
theorem Cls.get{K:PySem.W.Frag}{C:Addr}(c:Cls K C)(f:Str):PySem.W.plainGet K C f=true:=c.pg
structure Con(K:PySem.W.Frag)(C:Addr)(f:Str)(v:V)(u:Value):Prop where
 at_:PySem.W.findIn K (.ref C) f=some (some u)
 rel:RelV v u
 get:PySem.W.specialIn K u "__get__"=some none
 cp:PySem.W.copiedNames.contains f=false
structure Meth(K:PySem.W.Frag)(C:Addr)(m:Str)(f:Addr):Prop where
 at_:PySem.W.findIn K (.ref C) m=some (some (.ref f))
 fn:PySem.W.isFn K (.ref f)=true
 kp:PySem.W.keepIn K (.ref f)=true
section
variable{X:Cx}{pins:List (Addr×Obj)}{σ:St}{H:Hp}{s:Shared}{a C dx:Addr}{fs:List (Str×V)}{f:Str}{v:V}{A:Around}{E:Value->Shared->Prop}
end
section
variable{X:Cx}{o e value:Expr}{f:Str}{pos pos' Yb:Pos}{ta tv:TE}
end
section
variable{X:Cx}{pins:List (Addr×Obj)}{σ:St}{H:Hp}{s:Shared}{A:Around}{E:Value->Shared->Prop}{Q:Value->Shared->Prop}{c:Value}{b:Bool}
inductive lP(K:PySem.W.Frag)(H:Hp):V->Value->Prop where|a_:lP K H .a_ (.type "NoneType")|bl(x:Bool):lP K H (.bl x) (.type "bool")|int(i:Int):lP K H (.int i) (.type "int")|str(x:Str):lP K H (.str x) (.type "str")|Yp(x:UInt64):lP K H (.Yp x) (.type "float")|lst{a:Addr}{xs:List V}(e:H a=some (.lst xs)):lP K H (.ref a) (.type "list")|Fs{a:Addr}{o:Obj}{xs:List V}(e:H a=some (.Fs o (.lst xs))):lP K H (.ref a) (.type "list")|tup{a:Addr}{xs:List V}(e:H a=some (.tup xs)):lP K H (.ref a) (.type "tuple")|dK{a:Addr}{aF:List (Key×V)}(e:H a=some (.dK aF)):lP K H (.ref a) (.type "dict")|dT{a:Addr}{aF:List (List Key×V)}(e:H a=some (.dT aF)):lP K H (.ref a) (.type "dict")|ins{a C dx:Addr}{fs:List (Str×V)}(e:H a=some (.ins C dx fs))(cl:Cls K C)(ha:PySem.W.findIn K (.ref C) "__class__"=some (some (.builtin "object.__class__")))(hn:PySem.W.specialIn K (.builtin "object.__class__") "__get__"=some (some (.builtin "getset_descriptor.__get__")))(htk:PySem.W.takesIn K (.builtin "object.__class__")=some true)(hm:PySem.W.mroIn K C (.type "object")=some true):lP K H (.ref a) (.ref C)
theorem LB{x:V}{u t:Value}(I:Inv X pins σ H s)(f:RelV x u)(ty:lP X.K H x t)(e:PySem.W.kitOne X.K t c=some b)(h:∀tk,Q (.bool b) {s with toks:=tk}):wpAny (model X.prog X.w) A (call (.builtin "isinstance") [u,c]) Q E s:=by cases ty with|a_=>cases(show u=Value.none from f);exact PySem.W.kia_one PySem.W.kitx_none I.kK True.intro e (λz=>nomatch z) h|bl y=>cases(show u=Value.bool y from f);exact PySem.W.kia_one PySem.W.kitx_bool I.kK True.intro e (λz=>nomatch z) h|int i=>obtain⟨t,q⟩:=(show∃t,u=Value.int i t from f);cases q;exact PySem.W.kia_one PySem.W.kitx_int I.kK True.intro e (λz=>nomatch z) h|str y=>obtain⟨t,q⟩:=(show∃t,u=Value.str y t from f);cases q;exact PySem.W.kia_one PySem.W.kitx_str I.kK True.intro e (λz=>nomatch z) h|Yp y=>obtain⟨t,q⟩:=(show∃t,u=Value.float y t from f);cases q;exact PySem.W.kia_one PySem.W.kitx_float I.kK True.intro e (λz=>nomatch z) h|@lst a xs d=>cases(show u=Value.ref a from f);obtain⟨_,_,n,_,h1⟩:=(show cK X.prog X.w H s.heap a (.lst xs)from I.cj a _ d);exact PySem.W.kia_one PySem.W.kitx_list I.kK ⟨_,h1,rfl⟩ e (λz=>nomatch z) h|@Fs a ob xs d=>cases(show u=Value.ref a from f);obtain⟨_,_,_,n,_,h1⟩:=(show cK X.prog X.w H s.heap a (.Fs ob (.lst xs))from I.cj a _ d);exact PySem.W.kia_one PySem.W.kitx_list I.kK ⟨_,h1,rfl⟩ e (λz=>nomatch z) h|@tup a xs d=>cases(show u=Value.ref a from f);obtain⟨_,_,_,p⟩:=(show cK X.prog X.w H s.heap a (.tup xs)from I.cj a _ d);obtain⟨o,h1,h2,_⟩:=p;exact PySem.W.kia_one PySem.W.kitx_tuple I.kK ⟨o,h1,h2⟩ e (λz=>nomatch z) h|@dK a aF d=>cases(show u=Value.ref a from f);obtain⟨_,_,vs,_,p⟩:=(show cK X.prog X.w H s.heap a (.dK aF)from I.cj a _ d);obtain⟨o,es,ep,h1,h2,_⟩:=p;exact PySem.W.kia_one PySem.W.kitx_dict I.kK ⟨o,h1,h2.1⟩ e (λz=>nomatch z) h|@dT a aF d=>cases(show u=Value.ref a from f);obtain⟨_,_,xs,_,o,es,ep,h1,h2,_⟩:=(show cK X.prog X.w H s.heap a (.dT aF)from I.cj a _ d);exact PySem.W.kia_one PySem.W.kitx_dict I.kK ⟨o,h1,h2.1⟩ e (λz=>nomatch z) h|@ins a C dx fs d cl ha hn htk hm=>cases(show u=Value.ref a from f);obtain⟨mA,O,_⟩:=Ue I.cj d;obtain⟨od,J,_⟩:=O.look;exact PySem.W.kia_one (PySem.W.kitx_own (cl.get _) cl.hd ha hn htk hm) I.kK J e (λz=>nomatch z) h
end
structure da(k:Nat)(A:Around):Prop where
 dp:A.depth+3*k+5<recursionLimit
 un:A.units+16*k+200<cLine
 hd:130<=k->A.handled=none
theorem da.mono{j k:Nat}{A:Around}(r:da k A)(h:j<=k):da j A:=⟨by have :=r.dp;lia,by have :=r.un;lia,λz=>r.hd (by lia)⟩
theorem da.deeper{k:Nat}{A:Around}(r:da (k+1) A)(env:Env):da k (A.deeper env):=⟨by have :=r.dp;show A.depth+1+3*k+5<_;lia,by have :=r.un;show A.units+3+16*k+200<_;lia,λz=>r.hd (by lia)⟩
theorem da.depth{k:Nat}{A:Around}(r:da k A):A.depth<recursionLimit:=by have :=r.dp;lia
theorem da.units{k:Nat}{A:Around}(r:da k A):A.units+64<cLine:=by have :=r.un;lia
noncomputable def Mo:TA:=λ_ H Q=>Q [] H
noncomputable def xj(c:TE)(d:TA):TA:=λσ H Q=>c σ H λx a=>d σ a λxs b=>Q (x::xs) b
section
variable{X:Cx}{e:Expr}{es:List Expr}{te:TE}{t:TA}{pos:Pos}
theorem ag:PA X [] Mo:=λ_ _ _ _ H Q I h=>Calls.spliced_nil ⟨[],H,I, .nil,h⟩
theorem ae(ha:PE X e te)(f:PA X es t)(g:starEach (e::es) X.env=(false,eval e X.env)::starEach es X.env:=by rfl):PA X (e::es) (xj te t):=by intro pos pins s σ H Q I h;rw[g];show wpAny _ _ (spliced ((false,eval e X.env)::backTo pos (starEach es X.env))) _ _ s;refine Calls.spliced_cons (b9 (ha pins s σ H _ I h) λu s1 k=>?_);obtain⟨x,a,c,i,q1⟩:=k;exact b9 (f pos pins s1 σ a _ c q1) λus s2⟨xs,b,d,j,q2⟩=>⟨x::xs,b,d, .cons i j,q2⟩
noncomputable def SF(t:TA):TE:=λσ H Q=>t σ H λxs a=>xs.length<=sizeLine/\∀p,a p=none->Q (.ref p) (upd a p (.tup xs))
noncomputable def TL(t:TA):TE:=λσ H Q=>t σ H λxs a=>xs.length<=sizeLine/\∀p,a p=none->Q (.ref p) (upd a p (.lst xs))
theorem aE{d}(h:PA X es t):PE X (.Tuple es d pos) (SF t):=by intro pins s σ H Q I hq;refine wpAny_Tuple_spliced (b9 (h pos pins s σ H _ I hq) λus s1⟨xs,a,c,r,z,q⟩=>⟨by rw[<-r.length];exact z,?_⟩);have hf:a s1.heap.objs.size=none:=c.cj.fresh (bN _);refine⟨.ref s1.heap.objs.size,upd a s1.heap.objs.size (.tup xs),c.laid (t':=s1.toks) (λb u e=>cf _ e) (bN _) ?_,rfl,q _ hf⟩;exact⟨z,us,r,⟨_,gj _ rfl,rfl,_,rfl⟩⟩
theorem bR(h:PA X es t):PE X (.List es pos) (TL t):=by intro pins s σ H Q I hq;refine wpAny_List_spliced (b9 (h pos pins s σ H _ I hq) λus s1⟨xs,a,c,r,z,q⟩=>⟨by rw[<-r.length];exact z,?_⟩);have hf:a s1.heap.objs.size=none:=c.cj.fresh (bN _);refine⟨.ref s1.heap.objs.size,upd a s1.heap.objs.size (.lst xs),c.laid (t':=s1.toks) (λb u e=>cf _ e) (bN _) ?_,rfl,q _ hf⟩;exact⟨z,us,0,r,gj _ rfl⟩
end
noncomputable abbrev Sp:=List V->Hp->VK->XK->Prop
noncomputable abbrev oX:=Option Value->List Env->Hp->Shared->XK->Value->Shared->Prop
structure Es(P:Program)(w:World)(K:PySem.W.Frag)(mg:Str->Option Value)(base:Heap)(A:Around)(outer:List Env)(s:Shared)(H:Hp):Prop where
 frames:A.frames=some outer
 mod:Mod K mg base
 bs:∀b o,base.get? b=some o->s.heap.get? b=some o/\H b=none
 Ft:base.objs.size<=s.heap.objs.size
 jF:s.heap.FunFrames base outer
 R3:∀b∈jT outer,H b=none
 cj:jS P w H s.heap
 bare:AllBare s.gens
 hdl:HB base A
noncomputable def CE(outer:List Env)(P:Program)(w:World)(H:Hp)(s:Shared)(Q:VK)(u:Value)(s':Shared):Prop:=∃v H',s'.os=s.os/\AllBare s'.gens/\Un (jT outer) [] H H' s.heap s'.heap/\jS P w H' s'.heap/\RelV v u/\Q v H'
noncomputable def CR(CX:oX)(hh:Option Value)(outer:List Env)(P:Program)(w:World)(H:Hp)(s:Shared)(Q:VK)(E:XK)(r:Result)(s':Shared):Prop:=match r with| .ok (.ret u)=>CE outer P w H s Q u s'| .ok _=>False| .error e=>CX hh outer H s E e s'
structure oD(P:Program)(w:World)(K:PySem.W.Frag)(mg:Str->Option Value)(base:Heap)(CX:oX)(k:Nat)(f:Addr)(fd:FuncData)(ps:List Str)(sp:Sp):Prop where
 len:∀vs H Q E,sp vs H Q E->vs.length=ps.length
 run:∀(A:Around)(outer:List Env)(s:Shared)(H:Hp)(args:Args)(us:List Value)(vs:List V)(Q:VK)(E:XK),da k A->Es P w K mg base A outer s H->BindsTo s fd args (ps.zip us)->Vals vs us->sp vs H Q E->codeAny (model P w) A (.call (.ref f) args) (CR CX A.handled outer P w H s Q E) s
theorem oD.mono{P:Program}{w:World}{K:PySem.W.Frag}{mg:Str->Option Value}{base:Heap}{CX:oX}{j k:Nat}{f:Addr}{fd:FuncData}{ps:List Str}{sp:Sp}(F:oD P w K mg base CX j f fd ps sp)(h:j<=k):oD P w K mg base CX k f fd ps sp:=⟨F.len,λA outer s H args us vs Q E a=>F.run A outer s H args us vs Q E (a.mono h)⟩
section
variable{X:Cx}{pins:List (Addr×Obj)}{σ:St}{H:Hp}{s s':Shared}
theorem Inv.after{Q:VK}{u:Value}(I:Inv X pins σ H s)(h:CE X.stack X.prog X.w H s Q u s'):EP X pins σ Q u s':=by obtain⟨v,H',os,bare,un,cj,r,q⟩:=h;obtain⟨hh,g,d,t,a⟩:=s';obtain rfl:a=s.os:=os;exact⟨v,H',I.call (h':=hh) (g':=g) (d':=d) (t':=t) (ch:=[]) un cj bare (λb z=>absurd z (by simp)),r,q⟩
end
noncomputable def ac3(sp:Sp)(b:List V)(E:XK)(t:TA):TE:=λσ H Q=>t σ H λvs a=>sp (vs++b) a Q E
noncomputable def Binds(K:PySem.W.Frag)(fd:FuncData)(ps:List Str)(ds:List Value):Prop:=∀(s:Shared)(us:List Value),K.In s.heap->(us++ds).length=ps.length->BindsTo s fd ⟨us,[]⟩ (ps.zip (us++ds))
theorem Binds.all{K:PySem.W.Frag}{fd:FuncData}{ps:List Str}(h:∀us:List Value,us.length=ps.length->bindArgs fd ⟨us,[]⟩=pure (ps.zip us)):Binds K fd ps []:=λs us _ hl=>by rw[lV]at hl⊢;exact .of_eq (h us hl)
def Passes(CX:oX)(X:Cx)(E:XK):Prop:=∀(pins:List (Addr×Obj))(σ:St)(H:Hp)(s:Shared)(e:Value)(s':Shared),Inv X pins σ H s->CX X.A.handled X.stack H s E e s'->X.xe e s'
section
variable{X:Cx}{CX:oX}{k:Nat}{f C:Addr}{fd:FuncData}{ps:List Str}{sp:Sp}{dvs:List V}{ds:List Value}{E:XK}{x m:Str}{p pos apos:Pos}{e o:Expr}{es:List Expr}{ta:TE}{t:TA}
end
noncomputable def PK(X:Cx)(a:List Keyword)(t:TA):Prop:=∀(b:Pos)(pins:List (Addr×Obj))(s:Shared)(σ:St)(H:Hp)(Q:List V->Hp->Prop),Inv X pins σ H s->t σ H Q->wpAny (model X.prog X.w) X.A (evalAll ((backToKw b (keywordEach a X.env)).map (·.2))) (AP X pins σ Q) X.xe s
section
variable{X:Cx}{CX:oX}{k:Nat}{f C:Addr}{fd:FuncData}{ps ks:List Str}{sp:Sp}{E:XK}{x m:Str}{p pos apos aeF:Pos}{e o:Expr}{es:List Expr}{kws:List Keyword}{te ta:TE}{t tk:TA}{nm:Option Str}
theorem Xa:PK X [] Mo:=λ_ _ _ _ H Q I h=>wpAny_evalAll_nil ⟨[],H,I, .nil,h⟩
theorem Sn(ha:PE X e te)(g:PK X kws t):PK X (⟨nm,e,aeF⟩::kws) (xj te t):=by intro pos pins s σ H Q I h;show wpAny _ _ (evalAll ((do let v<-eval e X.env;standAt pos;pure v)::(backToKw pos (keywordEach kws X.env)).map (·.2))) _ _ s;refine wpAny_evalAll_cons (az (b9 (ha pins s σ H _ I h) λu s1⟨x,a,c,i,q1⟩=>az (wpAny_standAt (bA ?_))));exact b9 (g pos pins s1 σ a _ c q1) λus s2⟨xs,b,d,j,q2⟩=>⟨x::xs,b,d, .cons i j,q2⟩
end
structure aT(N P:List Str)(sc:Scope):Prop where
 kind:sc.kind= .function
 co:sc.isCoroutine=false
 gen:sc.isGenerator=false
 nd:N.Nodup
 pre:N.take P.length=P
 par:∀x∈P,sc.names.lookup x=some .local\/sc.names.lookup x=some .cell
 ZY:∀y∈sc.names,y.2≠ .free
theorem Ak{kindOf:Str->Option NameKind}{x:Str}:∀{binds:List (Str×Value)}{m:Str->Option Value},(∀v,(x,v)∉binds)->bindL kindOf binds m x=m x
 |[],_,_=>rfl
 |(n,v)::r,m,h=>by
  unfold bindL;rw[Ak λw hw=>h w (eA _ hw)];split
  ·have :x≠n:=by rintro rfl;exact h v eD
   simp[this]
  ·rfl
theorem AE{kindOf:Str->Option NameKind}{x:Str}:∀{binds:List (Str×Value)}{m:Str->Option Value},(∀v,(x,v)∉binds)->bindC kindOf binds m x=m x
 |[],_,_=>rfl
 |(n,v)::r,m,h=>by
  unfold bindC;rw[AE λw hw=>h w (eA _ hw)];split;·rfl
  ·have :x≠n:=by rintro rfl;exact h v eD
   simp[this]
theorem z_{kindOf:Str->Option NameKind}{x:Str}{v:Value}:∀{P:List Str}{vs:List Value}{i:Nat}{m:Str->Option Value},P.Nodup->P[i]?=some x->vs[i]?=some v->kindOf x=some .local->bindL kindOf (P.zip vs) m x=some v|[],_,_,_,_,h,_,_=>by simp at h|_::_,[],_,_,_,_,h,_=>by simp at h|p::P,w::vs,0,m,nd,h1,h2,a=>by simp at h1 h2;subst h1;subst h2;show bindL kindOf ((p,w)::P.zip vs) m p=_;unfold bindL;rw[Ak λv b=>(List.nodup_cons.mp nd).1 (List.of_mem_zip b).1,if_pos a];simp|p::P,w::vs,i+1,m,nd,h1,h2,a=>by show bindL kindOf ((p,w)::P.zip vs) m x=_;unfold bindL;exact z_ (i:=i) (List.nodup_cons.mp nd).2 (by simpa using h1) (by simpa using h2) a
theorem Au{kindOf:Str->Option NameKind}{x:Str}{v:Value}:∀{P:List Str}{vs:List Value}{i:Nat}{m:Str->Option Value},P.Nodup->P[i]?=some x->vs[i]?=some v->kindOf x≠some .local->bindC kindOf (P.zip vs) m x=some v|[],_,_,_,_,h,_,_=>by simp at h|_::_,[],_,_,_,_,h,_=>by simp at h|p::P,w::vs,0,m,nd,h1,h2,a=>by simp at h1 h2;subst h1;subst h2;show bindC kindOf ((p,w)::P.zip vs) m p=_;unfold bindC;rw[AE λv b=>(List.nodup_cons.mp nd).1 (List.of_mem_zip b).1,if_neg a];simp|p::P,w::vs,i+1,m,nd,h1,h2,a=>by show bindC kindOf ((p,w)::P.zip vs) m x=_;unfold bindC;exact Au (i:=i) (List.nodup_cons.mp nd).2 (by simpa using h1) (by simpa using h2) a
noncomputable def start(N:List Str)(vs:List V):St:=vs.map some++jQ (N.length-vs.length) none
noncomputable def fE(CX:oX)(P:Program)(w:World)(K:PySem.W.Frag)(mg:Str->Option Value)(base:Heap)(N:List Str)(qual:Str)(scope:Scope)(f:Addr)(cd:Value)(A:Around)(outer:List Env)(s:Shared)(H:Hp)(E:XK):Cx where prog:=P;w:=w;K:=K;mg:=mg;base:=base;A:=A.deeper (envOfC qual scope s.heap.objs.size f cd);N:=N;cD:=s;H₀:=H;env:=envOfC qual scope s.heap.objs.size f cd;outer:=outer;stack:=envOfC qual scope s.heap.objs.size f cd::outer;ex:=[];calm:=true;fn:=λ_=>true;pn:=[];xe:=λe s'=>wpAny (model P w) (A.deeper (envOfC qual scope s.heap.objs.size f cd)) (leaving (envOfC qual scope s.heap.objs.size f cd) e) (λ_ a=>CX A.handled outer H s E e a) (λe' a=>CX A.handled outer H s E e' a) s'
theorem Ey{sc:Scope}{n:Nat}{x:Str}(h:sc.names.lookup x=some .cell):∃c,(cellsFrom n sc.names []).lookup x=some c:=by have q:=PySem.W.cellsFrom_some sc.names n [] (.inl h);exact Option.isSome_iff_exists.mp q
theorem MC{CX:oX}{P:Program}{w:World}{K:PySem.W.Frag}{mg:Str->Option Value}{base:Heap}{N ps:List Str}{qual:Str}{scope:Scope}{f:Addr}{cd:Value}{A:Around}{outer:List Env}{s s1:Shared}{H:Hp}{E:XK}{us:List Value}{vs:List V}(S:aT N ps scope)(e0:Es P w K mg base A outer s H)(hl:vs.length=ps.length)(r:Vals vs us)(x:InCallC s s.heap.objs.size (bindL (envOfC qual scope s.heap.objs.size f cd).kindOf (ps.zip us) λ_=>none) (cellsFrom (s.heap.objs.size+1) scope.names []) (bindC (envOfC qual scope s.heap.objs.size f cd).kindOf (ps.zip us) λ_=>none) s1):Inv (fE CX P w K mg base N qual scope f cd A outer s H E) [] (start N vs) H s1:=by
 have B:ps.length<=N.length:=by have :=congrArg List.length S.pre;rw[iu]at this;lia
 obtain⟨h1,tk,rfl,l⟩:=x.done;have j:∀b:Addr,b∉(fE CX P w K mg base N qual scope f cd A outer s H E).ex:=λb z=>absurd (show b∈([]:List Addr)from z) (by simp);refine⟨⟨e0.mod,S.kind,rfl,rfl,bN _,λy z c h1 h2=>?_,λy d=>?_,λy c _ h=>?_,λ_=>e0.hdl.toP,Around.frames_deeper e0.frames, .inr ⟨rfl,rfl⟩,λb z=>absurd z (j b),e0.bs,e0.Ft,λb _ _=>j b,λb z=>absurd z (j b),e0.jF,e0.R3⟩,rfl,e0.bare,Un.kept l,⟨_,x.toInCall.ns,λi y v h1 h2 h3=>?_⟩,λy c h=>⟨_,x.cell y c h⟩,e0.cj.fresh (bN _),λy c h=>?_,λp g=>absurd (show p∈([]:List (Addr×Obj))from g) (by simp),e0.cj.kept l,?_⟩;·exact name_of_addr x.apart (PySem.mem_of_lookup h1) (PySem.mem_of_lookup h2)
 ·have d:scope.names.lookup y=some .cell\/scope.names.lookup y=some .free:=d;rcases d with d|d;·exact Ey d
  ·exact absurd rfl (S.ZY _ (PySem.mem_of_lookup d))
 ·exact Nat.le_of_lt (x.above y c (PySem.mem_of_lookup h))
 ·have hi:i<vs.length:=by
   unfold start at h2;by_cases hi:i<vs.length;·exact hi
   ·rw[List.getElem?_append_right (by simpa using hi)]at h2;rw[List.getElem?_replicate]at h2;split at h2<;>cases h2
  have ha:vs[i]?=some v:=by unfold start at h2;rw[EZ (by simpa using hi),jP]at h2;cases e:vs[i]? with|none=>rw[e]at h2;cases h2|some a=>rw[e]at h2;cases h2;rfl
  obtain⟨u,m,t⟩:=r.get ha;have g:ps[i]?=some y:=by rw[<-S.pre,List.getElem?_take_of_lt (by lia)];exact h1
  have o:ps.Nodup:=by rw[<-S.pre];exact S.nd.sublist (List.take_sublist _ _)
  refine⟨u,t,?_⟩;rcases S.par y (qO g)with k|k;·exact .inl ⟨k,z_ o g m k⟩
  ·obtain⟨c,e⟩:=Ey (n:=s.heap.objs.size+1) k;refine .inr ⟨.inl k,c,e,?_⟩;have q:=x.cell y c e;rw[Au o g m (by show scope.names.lookup y≠_;rw[k];decide)]at q;exact q
 ·exact e0.cj.fresh (Nat.le_of_lt (x.above y c (PySem.mem_of_lookup h)))
 ·unfold start;show _=N.length;rw[dZ,cV,List.length_replicate];lia
theorem HN{CX:oX}{P:Program}{w:World}{K:PySem.W.Frag}{mg:Str->Option Value}{base:Heap}{k:Nat}{f:Addr}{name qual:Str}{params:Arguments}{body:List Stmt}{scope:Scope}{g kV doc pm cZ ct oc:Value}{an od:Option Addr}{DA:Array (Option Value)}{N ps:List Str}{sp:Sp}(C:K.lookup f=some ⟨oc,od, .func (PySem.W.fnOf name qual params body scope g kV doc pm an cZ ct),DA⟩)(l:PySem.W.codeIn K cZ qual=true)(S:aT N ps scope)(len:∀vs H Q E,sp vs H Q E->vs.length=ps.length)(j:∀(A:Around)(outer:List Env)(s:Shared)(H:Hp)(vs:List V)(Q:VK)(E:XK),da k (A.deeper (envOfC qual scope s.heap.objs.size f cZ))->sp vs H Q E->∃t,iO (fE CX P w K mg base N qual scope f cZ A outer s H E) body t/\t {nx:=λ_ H'=>Q .a_ H',rt:=Q} (start N vs) H):oD P w K mg base CX (k+1) f (PySem.W.fnOf name qual params body scope g kV doc pm an cZ ct) ps sp:=by
 refine⟨len,λA outer s H args us vs Q E h e0 hb r i=>?_⟩;have hl:=len _ _ _ _ i;have KX:K.In s.heap:=e0.mod.Ly.keeps λb o e=>(e0.bs b o e).1;have B:s.heap.NoLimit:=e0.mod.nolimit.keeps λb o e=>(e0.bs b o e).1;have p:∀y∈ps.zip us,scope.names.lookup y.1=some .local\/(scope.names.lookup y.1=some .cell/\((cellsFrom (s.heap.objs.size+1) scope.names []).lookup y.1).isSome=true):=λ⟨n,v⟩z=>by
  rcases S.par n (List.of_mem_zip z).1 with q|q;·exact .inl q
  ·exact .inr ⟨q,PySem.W.cellsFrom_some _ _ _ (.inl q)⟩
 refine codeAny_call_function h.depth (KX _ _ C) rfl S.co S.gen rfl (PySem.W.codeRec_of KX l) (hb _ _ _ _ ?_);refine wpAny_newFunctionEnv_cells S.kind p λenv m s1 x=>?_;subst m;refine⟨B.keeps x.toInCall.keep,codeAny_func ?_⟩;obtain⟨t,ht,hq⟩:=j A outer s H vs Q E (h.deeper _) i;have I:Inv (fE CX P w K mg base N qual scope f cZ A outer s H E) [] (start N vs) H s1:=MC S e0 hl r x;refine gg (ht [] s1 (start N vs) H _ I hq) (λfl s' a=>?_) λe s' a=>a;have fin:∀{c:St}{H':Hp}{v:V}{u:Value},Inv (fE CX P w K mg base N qual scope f cZ A outer s H E) [] c H' s'->RelV v u->Q v H'->CE outer P w H s Q u s':=λ{c H' v u}J d q=>⟨v,H',J.os,J.bare,J.base,J.cj,d,q⟩;cases fl with|ret u=>obtain⟨v,c,H',J,d,q⟩:=a;exact fin J d q|next=>obtain⟨c,H',J,q⟩:=a;exact fin (v:=V.a_) (u:=Value.none) J rfl q|brk=>obtain⟨_,_,_,q⟩:=a;exact False.elim q|cont=>obtain⟨_,_,_,q⟩:=a;exact False.elim q
section
variable{X:Cx}{x:Str}{p pos:Pos}{e:Expr}{es:List Expr}{t:TA}{id T:String}{r:List V->Hp->VK->Prop}
noncomputable def tCB(r:List V->Hp->VK->Prop)(t:TA):TE:=λσ H Q=>t σ H λvs a=>r vs a Q
theorem bz(hc:iL X (.builtin id) r)(f:Gl X x)(hm:X.mg x=none)(i:bootBuiltins x=some (.builtin id))(ha:PA X (e::es) t)(hn:x≠"__name__":=by decide)(c:(x==("__debug__":Str))=false:=by decide)(d:starEach (e::es) X.env=(false,eval e X.env)::starEach es X.env:=by rfl)(g:(backTo pos (starEach es X.env)).any (·.1)=false:=by rfl):PE X (.Call (.Name x p) (e::es) [] pos) (tCB r t):=by intro pins s σ H Q I h;refine wpAny_Call_Name_kw (pd I f hm i ?_ hn c);exact PyProof.Rows.callWith_builtin1 (b9 (ha pos pins s σ H _ I h) λus s1⟨vs,a,b,j,q1⟩=>hc pins s1 σ a vs us Q b j q1) d g
theorem fC(hc:iL X (.type T) r)(f:Gl X x)(hm:X.mg x=none)(i:bootBuiltins x=some (.type T))(ha:PA X (e::es) t)(hn:x≠"__name__":=by decide)(c:(x==("__debug__":Str))=false:=by decide)(d:starEach (e::es) X.env=(false,eval e X.env)::starEach es X.env:=by rfl)(g:(backTo pos (starEach es X.env)).any (·.1)=false:=by rfl):PE X (.Call (.Name x p) (e::es) [] pos) (tCB r t):=by intro pins s σ H Q I h;refine wpAny_Call_Name_kw (pd I f hm i ?_ hn c);exact PyProof.Rows.callWith_type1 (b9 (ha pos pins s σ H _ I h) λus s1⟨vs,a,b,j,q1⟩=>hc pins s1 σ a vs us Q b j q1) d g
end
end L2
end
section
namespace HT
open PySem PyProof.Rows
section
open PySem.SeqAt
open PySem.AutoSeq1(wpAny_loadPart')
open PySem.MeetsSeq PySem.MeetsSeq2 PySem.MeetsSeq3
end
section
variable{prog:Program}{w:World}{A:Around}{E:Value->Shared->Prop}{s:Shared}
theorem Uh{t b:Addr}{vs ws:List Value}{Q:Value->Shared->Prop}(ht:IsTup s.heap t vs.toArray)(hb:IsTup s.heap b ws.toArray)(i:vs≠[])(h1:ws=[]->Q (.ref t) s)(h2:ws≠[]->Q (.ref s.heap.objs.size) {s with heap:=s.heap.push {cls:= .type "tuple",data:= .seq (vs++ws).toArray}})(hsz:vs.length+ws.length<=sizeLine):wpAny (model prog w) A (binaryOp .Add (.ref t) (.ref b)) Q E s:=by
 obtain⟨⟨cls,d,data,sl⟩,a,hc,n,hd⟩:=id ht;obtain⟨⟨l,f,data2,k⟩,c,g,j,h⟩:=id hb;simp only at hc hd g h;subst hc hd g h;have e:vs.toArray++ws.toArray=(vs++ws).toArray:=by simp
 by_cases hw:ws=[];·exact concat_meets ⟨_,a,rfl⟩ ⟨_,c,rfl⟩ noFill_tuple_add seq_tuple_add PySem.F.slot_tuple_add PySem.F.entry_tuple_add (PySem.F.args_tuple_add_2 _ _) (tuple_addW1 t b vs.toArray ws.toArray n j d f sl k (by simpa using i) (by simp[hw])) ⟨a,c,h1 hw⟩
 ·refine concat_meets ⟨_,a,rfl⟩ ⟨_,c,rfl⟩ noFill_tuple_add seq_tuple_add PySem.F.slot_tuple_add PySem.F.entry_tuple_add (PySem.F.args_tuple_add_2 _ _) (tuple_addW2 t b vs.toArray ws.toArray n j d f sl k (by simpa using i) (by simpa using hw) (by rw[c8,c8];exact hsz)) ⟨a,c,?_⟩;rw[e];exact h2 hw
noncomputable def eJ(n d:Nat):Option Int->Nat|none=>d|some v=>if v<0 then(v+(n:Int)).toNat else min v.toNat n
theorem Dm(n d:Nat):eJ n d none=d:=rfl
theorem Ka(n d k:Nat):eJ n d (some (k:Int))=min k n:=by show(if(k:Int)<0 then((k:Int)+(n:Int)).toNat else min (k:Int).toNat n)=min k n;rw[if_neg (by lia),Int.toNat_natCast]
theorem ZC(n d:Nat)(hd:d<=n)(o:Option Int):eJ n d o<=n:=by
 cases o with
  |none=>exact hd
  |some v=>
   show(if v<0 then(v+(n:Int)).toNat else min v.toNat n)<=n;by_cases a:v<0;·rw[if_pos a];lia
   ·rw[if_neg a];exact Nat.min_le_right _ _
theorem Jn(v:Int)(n d:Nat):(if v<0 then max (v+(n:Int)) 0 else min v (n:Int))=((eJ n d (some v):Nat):Int):=by
 show(if v<0 then max (v+(n:Int)) 0 else min v (n:Int))=(((if v<0 then(v+(n:Int)).toNat else min v.toNat n):Nat):Int);by_cases a:v<0;·simp only[if_pos a];lia
 ·simp only[if_neg a];lia
theorem Hs(lo hi:Option Int)(n:Nat):Builtin.Slice.sliceAdjust lo hi 1 (n:Int)=(((eJ n 0 lo:Nat):Int),((eJ n n hi:Nat):Int)):=by
 have h1:¬((1:Int)<0):=by lia
 unfold Builtin.Slice.sliceAdjust;simp only[h1,if_false];refine Prod.ext ?_ ?_;·cases lo with|none=>rfl|some v=>exact Jn v n 0
 ·cases hi with|none=>rfl|some v=>exact Jn v n n
theorem GC(i j:Nat):Builtin.Slice.slicePlaces (i:Int) (j:Int) 1=j-i:=by
 unfold Builtin.Slice.slicePlaces;have h1:(1:Int)>0:=by lia
 simp only[h1,if_true,Int.ediv_one];split<;>lia
theorem yu{v:Value}{o:Option Int}{Q:Option Int->Shared->Prop}(p:IsPart v o)(h:Q o s):wpAny (model prog w) A (Builtin.Slice.slicePartIndex v) Q E s:=by cases p with|none=>exact slicePart_none h|int i t=>exact slicePart_int h
theorem iP{sl:Addr}{c d:Value}{lo hi:Option Int}{n:Nat}{Q:Int×Int×Nat->Shared->Prop}(e:s.heap.IsSliceOf sl c d .none)(pl:IsPart c lo)(f:IsPart d hi)(h:Q (((eJ n 0 lo:Nat):Int),1,eJ n n hi-eJ n 0 lo) s):wpAny (model prog w) A (Builtin.Slice.sliceApplied (.ref sl) (pure (n:Int))) Q E s:=by obtain⟨os,b,g,a⟩:=id e;unfold Builtin.Slice.sliceApplied Builtin.Slice.sliceFields;refine az (az (fw b a (x:=c) rfl (az (fw b a (x:=d) rfl (az (fw b a (x:= .none) rfl (bA ?_)))))));refine az (slicePart_none ?_);show wpAny _ _ (if((1:Int)==0)=true then _ else _) _ _ s;rw[if_neg (by decide)];refine az (yu pl (az (yu f (az (bA ?_)))));show wpAny _ _ (match Builtin.Slice.sliceAdjust lo hi 1 (n:Int)with|(lo,hi)=>pure (lo,(1:Int),Builtin.Slice.slicePlaces lo hi 1)) _ _ s;rw[Hs lo hi n];show wpAny _ _ (pure (((eJ n 0 lo:Nat):Int),(1:Int),Builtin.Slice.slicePlaces ((eJ n 0 lo:Nat):Int) ((eJ n n hi:Nat):Int) 1)) _ _ s;rw[GC];exact bA h
theorem QN(xs:Array Value)(i k:Nat):((List.range k).filterMap λ(m:Nat)=>xs[((i:Int)+(m:Int)*1).toNat]?).toArray=((xs.toList.drop i).take k).toArray:=by
 have e:(λ(m:Nat)=>xs[((i:Int)+(m:Int)*1).toNat]?)=λm=>xs[i+m]?:=by
  funext m;have :((i:Int)+(m:Int)*1).toNat=i+m:=by lia
  rw[this]
 rw[e];have :=pick_run xs i k;rw[List.filterMap_map]at this;have e2:((λx=>xs[x]?)∘λx=>i+x)=λm=>xs[i+m]?:=rfl;rw[e2]at this;rw[this]
theorem nq{t sl:Addr}{items:Array Value}{c d:Value}{lo hi:Option Int}{Q:Value->Shared->Prop}(ht:IsTup s.heap t items)(b:s.heap.IsSliceOf sl c d .none)(pl:IsPart c lo)(j:IsPart d hi)(hw:¬(eJ items.size 0 lo=0/\eJ items.size items.size hi=items.size))(h:Q (.ref s.heap.objs.size) {s with heap:=s.heap.push {cls:= .type "tuple",data:= .seq ((items.toList.drop (eJ items.size 0 lo)).take (eJ items.size items.size hi-eJ items.size 0 lo)).toArray}})(hsz:items.size<=sizeLine):wpAny (model prog w) A (getItem (.ref t) (.ref sl)) Q E s:=by
 have a:sizeOk (.seq ((items.toList.drop (eJ items.size 0 lo)).take (eJ items.size items.size hi-eJ items.size 0 lo)).toArray):=by show((items.toList.drop (eJ items.size 0 lo)).take (eJ items.size items.size hi-eJ items.size 0 lo)).toArray.size<=sizeLine;rw[c8,iu,jf,Array.length_toList];lia
 have l:eJ items.size items.size hi<=items.size:=ZC _ _ (bN _) hi;obtain⟨os,i,f,k⟩:=id b;have e:s.TypeIs (.ref sl) "slice":=⟨os,i,f⟩;unfold getItem;try with_reducible refine kf ?_
 first|refine az (bA ?_)|skip
 refine az (wpAny_sequenceKey ht.typeIs (by decide) ?_);refine az (wpAny_callSpecial?_slot (name:=Str.ofString "__getitem__") ht.typeIs PyProof.Rows.slot_tuple_getitem (qU PyProof.Rows.slot_tuple_getitem ht.typeIs entry_tuple_getitem ?_ (args_tuple_getitem _ _)));show wpAny _ _ (Builtin.Tuple.tupleItemsOf (.ref t)>>=_) _ _ s;refine az (tupleItemsOf_ ht ?_);refine az (wpAny_typeOf e ?_);rw[if_pos (by decide)];refine az (iP b pl j ?_);have g:¬((((eJ items.size 0 lo:Nat):Int)==0&&(1:Int)==1&&(eJ items.size items.size hi-eJ items.size 0 lo)==items.size)=true):=by intro q;rw[cW,cW]at q;have q1:((eJ items.size 0 lo:Nat):Int)=0:=eq_of_beq q.1.1;have q2:eJ items.size items.size hi-eJ items.size 0 lo=items.size:=eq_of_beq q.2;exact hw ⟨by lia,by lia⟩
 show wpAny _ _ (if(((eJ items.size 0 lo:Nat):Int)==0&&(1:Int)==1&&(eJ items.size items.size hi-eJ items.size 0 lo)==items.size)=true then _ else _) _ _ s;rw[if_neg g,QN];first|exact az (m:=Builtin.Tuple.tupleExact _) (wpAny_newObj_type (bA ⟨_,rfl,bA h⟩) a)|exact az (m:=Builtin.Tuple.tupleExact _) (wpAny_newObj_type (az (bA (bA ⟨_,rfl,bA h⟩))) a)|exact az (az (m:=Builtin.Tuple.tupleExact _) (wpAny_newObj_type (bA (bA ⟨_,rfl,bA h⟩)) a))|exact az (az (m:=Builtin.Tuple.tupleExact _) (wpAny_newObj_type (bA ⟨_,rfl,bA h⟩) a))
end
end HT
end
section
namespace L2
open PySem PySem.Spec PyProof.Rows
noncomputable abbrev TO:=St->Hp->(Option Int->Hp->Prop)->Prop
noncomputable def PO(X:Cx)(e:Option Expr)(t:TO):Prop:=∀(pins:List (Addr×Obj))(s:Shared)(σ:St)(H:Hp)(Q:Option Int->Hp->Prop),Inv X pins σ H s->t σ H Q->wpAny (model X.prog X.w) X.A (evalPart e X.env) (λu s'=>∃o H',Inv X pins σ H' s'/\IsPart u o/\Q o H') X.xe s
noncomputable def uy:TO:=λ_ H Q=>Q none H
noncomputable def K5(t:TE):TO:=λσ H Q=>t σ H λx a=>∃i,x= .int i/\Q (some i) a
section
variable{X:Cx}{e:Expr}{te:TE}{lo hi:Option Expr}{tl th:TO}{pos p2:Pos}
theorem bI:PO X none uy:=by intro pins s σ H Q I h;rw[evalPart_none];exact bA ⟨none,H,I, .none,h⟩
theorem bZ(h:PE X e te):PO X (some e) (K5 te):=by intro pins s σ H Q I hw;rw[evalPart_some];refine b9 (h pins s σ H _ I hw) λu s1 d=>?_;obtain⟨x,a,b,c,q1⟩:=d;obtain⟨i,rfl,q⟩:=q1;obtain⟨t,rfl⟩:=c;exact⟨some i,a,b, .int i t,q⟩
noncomputable def SE(X:Cx)(r:V->Option Int->Option Int->Hp->VK->Prop):Prop:=∀(pins:List (Addr×Obj))(s:Shared)(σ:St)(H:Hp)(x:V)(v a b:Value)(lo hi:Option Int)(sl:Addr)(Q:VK),Inv X pins σ H s->RelV x v->s.heap.IsSliceOf sl a b .none->IsPart a lo->IsPart b hi->r x lo hi H Q->∃T id,typeLookup (.type T) "__getitem__"=pure (some (.builtin id))/\s.TypeIs v T/\wpAny (model X.prog X.w) X.A (getItem v (.ref sl)) (EP X pins σ Q) X.xe s
noncomputable def tSl(r:V->Option Int->Option Int->Hp->VK->Prop)(te:TE)(tl th:TO):TE:=λσ H Q=>te σ H λx a=>tl σ a λl b=>th σ b λu c=>r x l u c Q
theorem cg{r:V->Option Int->Option Int->Hp->VK->Prop}(y:SE X r)(t:PE X e te)(hl:PO X lo tl)(z:PO X hi th):PE X (.Subscript e (.Slice lo hi none p2) pos) (tSl r te tl th):=by intro pins s σ H Q I h;refine Subscript_ (b9 (t pins s σ H _ I h) λv s1 f=>?_);obtain⟨x,i,k,B,q1⟩:=f;refine wpAny_Slice (b9 (hl pins s1 σ i _ k q1) λc s2⟨l,j,m,pl,q2⟩=>b9 (z pins s2 σ j _ m q2) λd a f=>?_);obtain⟨u,g,n,A,q3⟩:=f;rw[evalPart_none];refine bA ?_;have o:Inv X pins σ g {a with heap:=a.heap.push {cls:= .type "slice",data:= .fields #[c,d, .none]}}:=n.kept (t':=a.toks) λb ob q=>cf _ q;obtain⟨T,id,p,ht,w⟩:=y pins {a with heap:=a.heap.push {cls:= .type "slice",data:= .fields #[c,d, .none]}} σ g x v c d l u a.heap.objs.size Q o B (Heap.IsSliceOf.new ..) pl A q3;show wpAny (model X.prog X.w) X.A (subscriptTail e (.Slice lo hi none p2) v (.ref a.heap.objs.size)) (EP X pins σ Q) X.xe {a with heap:=a.heap.push {cls:= .type "slice",data:= .fields #[c,d, .none]}};exact tail_any (ops:=[.ref a.heap.objs.size,v]) ht p w (by with_unfolding_all rfl)
noncomputable def gJ(xs:List V)(lo hi:Option Int):List V:=(xs.drop (HT.eJ xs.length 0 lo)).take (HT.eJ xs.length xs.length hi-HT.eJ xs.length 0 lo)
theorem qD(xs:List V)(lo hi:Option Int):(gJ xs lo hi).length<=xs.length:=by unfold gJ;rw[iu,jf];lia
noncomputable def aex(K:PySem.W.Frag):V->Option Int->Option Int->Hp->VK->Prop:=λx lo hi H Q=>∃a xs,x= .ref a/\bU K H a xs/\¬(HT.eJ xs.length 0 lo=0/\HT.eJ xs.length xs.length hi=xs.length)/\∀p,H p=none->Q (.ref p) (upd H p (.tup (gJ xs lo hi)))
theorem YB:SE X (aex X.K):=by
 intro pins s σ H x v k l lo hi sl Q I j d pl i h;obtain⟨a,xs,rfl,f,hw,q⟩:=h;cases j;obtain⟨g,r,ht,c⟩:=I.tuple f;have hlen:g.toArray.size=xs.length:=by rw[c8];exact r.length.symm
 refine⟨"tuple",_,PyProof.Rows.slot_tuple_getitem.lookup,ht.typeIs,?_⟩;refine HT.nq ht d pl i (by rw[hlen];exact hw) ?_ (by rw[hlen];exact c);rw[hlen];refine⟨.ref s.heap.objs.size,_,I.laid (t':=s.toks) (o:= .tup (gJ xs lo hi)) (λb ob q=>cf _ q) (bN _) ?_,rfl,q _ (I.cj.fresh (bN _))⟩;exact⟨dJ (qD xs lo hi) c,_,(r.drop (HT.eJ xs.length 0 lo)).take (HT.eJ xs.length xs.length hi-HT.eJ xs.length 0 lo),IsTup.new _ _⟩
noncomputable def aax(K:PySem.W.Frag):R2:=λx y H Q=>∃a b xs c,x= .ref a/\y= .ref b/\bU K H a xs/\bU K H b c/\xs≠[]/\xs.length+c.length<=sizeLine/\(c=[]->Q (.ref a) H)/\(c≠[]->∀p,H p=none->Q (.ref p) (upd H p (.tup (xs++c))))
theorem Vals.uB{xs:List V}{us:List Value}(r:Vals xs us):us=[]↔xs=[]:=by cases r with|nil=>simp|cons _ _=>simp
theorem Tx:ke X (binaryOp .Add) (aax X.K):=by intro pins s σ H x y v u Q I j k h;obtain⟨a,b,xs,l,rfl,rfl,ha,hb,g,f,q1,q2⟩:=h;cases j;cases k;obtain⟨m,d,i,_⟩:=I.tuple ha;obtain⟨n,c,p2,_⟩:=I.tuple hb;refine HT.Uh i p2 (λz=>g (d.uB.mp z)) (λz=>⟨.ref a,H,I,rfl,q1 (c.uB.mp z)⟩) (λz=>?_) (by rw[<-d.length,<-c.length];exact f);refine⟨.ref s.heap.objs.size,_,I.laid (t':=s.toks) (o:= .tup (xs++l)) (λb ob q=>cf _ q) (bN _) ?_,rfl,q2 (λw=>z (c.uB.mpr w)) _ (I.cj.fresh (bN _))⟩;exact⟨by rw[dZ];exact f,_,d.append c,IsTup.new _ _⟩
end
noncomputable def V7(n:Nat)(i:Int):Option Nat:=if 0<=i then(if i<n then some i.toNat else none)else if-(n:Int)<=i then some (i+n).toNat else none
noncomputable def lX{a:Type}(xs:List a)(i:Int):Option a:=(V7 xs.length i).bind λj=>xs[j]?
theorem HJ{n:Nat}{i:Int}{j:Nat}(h:V7 n i=some j):seqIndex? i n=some j/\j<n/\-(n:Int)<=i/\i<n:=by
 unfold V7 at h;by_cases a:0<=i
 ·rw[if_pos a]at h;by_cases h1:i<n;·rw[if_pos h1]at h;have e:i.toNat=j:=Option.some.inj h;exact⟨by rw[seqIndex_of a h1,e],by lia,by lia,h1⟩
  ·rw[if_neg h1]at h;cases h
 ·rw[if_neg a]at h;by_cases h1:-(n:Int)<=i;·rw[if_pos h1]at h;have e:(i+n).toNat=j:=Option.some.inj h;exact⟨by rw[seqIndex_neg (by lia) h1,e],by lia,h1,by lia⟩
  ·rw[if_neg h1]at h;cases h
theorem BJ{a:Type}{xs:List a}{i:Int}{v:a}(h:lX xs i=some v):∃j,seqIndex? i xs.length=some j/\xs[j]?=some v/\j<xs.length/\-(xs.length:Int)<=i/\i<xs.length:=by unfold lX at h;cases e:V7 xs.length i with|none=>rw[e]at h;cases h|some j=>rw[e]at h;obtain⟨h1,h2,h3,h4⟩:=HJ e;exact⟨j,h1,h,h2,h3,h4⟩
theorem aL{a:Type}{xs:List a}{j:Nat}{v:a}(h:xs[j]?=some v):lX xs (j:Int)=some v:=by
 have b:j<xs.length:=(List.getElem?_eq_some_iff.mp h).1;have e:V7 xs.length (j:Int)=some j:=by unfold V7;rw[if_pos (by lia),if_pos (by lia)];simp
 unfold lX;rw[e];exact h
def TF(b:Expr):Prop:=∀o i,subscripted b false o i=operate [o,i] (getItem o i)
noncomputable def IxR(X:Cx)(r:R2):Prop:=∀(value slice:Expr)(pins:List (Addr×Obj))(s:Shared)(σ:St)(H:Hp)(x y:V)(v u:Value)(Q:VK),Inv X pins σ H s->RelV x v->RelV y u->r x y H Q->subscripted slice false v u=operate [v,u] (getItem v u)->wpAny (model X.prog X.w) X.A (subscriptTail value slice v u) (EP X pins σ Q) X.xe s
noncomputable def MtR(X:Cx)(id:String)(r:V->List V->Hp->VK->Prop):Prop:=∀(pins:List (Addr×Obj))(s:Shared)(σ:St)(H:Hp)(x:V)(xs:List V)(v:Value)(us:List Value)(Q:VK),Inv X pins σ H s->RelV x v->Vals xs us->r x xs H Q->wpAny (model X.prog X.w) X.A (call (.builtin id) (v::us)) (EP X pins σ Q) X.xe s
section
variable{X:Cx}{a b:Expr}{ta tb:TE}{pos:Pos}
theorem aS{r:R2}(e:IxR X r)(ha:PE X a ta)(hb:PE X b tb)(f:TF b):PE X (.Subscript a b pos) (C1 r ta tb):=by intro pins s σ H Q I h;exact Subscript_ (X0 ha hb I h λv u s2 x y c d g i q=>e a b pins s2 σ c x y v u Q d g i q (f _ _))
noncomputable def Su(K:PySem.W.Frag):R2:=λx y H Q=>∃p xs i v,x= .ref p/\y= .int i/\bE K H p xs/\lX xs i=some v/\Q v H
noncomputable def T8(K:PySem.W.Frag):R2:=λx y H Q=>∃p xs i v,x= .ref p/\y= .int i/\bU K H p xs/\lX xs i=some v/\Q v H
noncomputable def aer:R2:=λx y H Q=>∃z i c,x= .str z/\y= .int i/\z.length<=sizeLine/\lX z.cps.toList i=some c/\Q (.str ⟨#[c]⟩) H
theorem bK:IxR X (Su X.K):=by
 intro value slice pins s σ H x y v u Q I m n h f;obtain⟨p,xs,i,z,rfl,rfl,hq,g,q⟩:=h;cases m;obtain⟨t,rfl⟩:=n;obtain⟨k,r,pl,o⟩:=I.list hq;obtain⟨j,h1,h2,h3,h4,h5⟩:=BJ g;obtain⟨w,d,l⟩:=r.get h2;have hl:=r.length;have hn:=xG;have fin:EP X pins σ Q w s:=⟨z,H,I,l,q⟩;by_cases e:0<=i
 ·have c:i.toNat=j:=by rw[seqIndex_of e h5]at h1;exact Option.some.inj h1
  exact item_listR pl.isList e (by lia) (by rw[c];simpa using d) fin f
 ·have c:(i+(k.toArray.size:Int)).toNat=j:=by rw[seqIndex_neg (by lia) h4]at h1;rw[c8,<-hl];exact Option.some.inj h1
  exact subscriptTail_builtinR (x:=w) pl.isList.typeIs slot_list_getitem.lookup (wpAny_getItem_list_neg (Q:=λr s'=>r=w/\EP X pins σ Q r s') pl.isList (by lia) (by rw[c8]<;>lia) (by lia) (by rw[c];simpa using d) ⟨rfl,fin⟩) f
theorem aU:IxR X (T8 X.K):=by intro value slice pins s σ H x y v u Q I g k h e;obtain⟨p,xs,i,z,rfl,rfl,hq,d,q⟩:=h;cases g;obtain⟨t,rfl⟩:=k;obtain⟨m,r,pl,l⟩:=I.tuple hq;obtain⟨j,h1,h2,h3,h4,h5⟩:=BJ d;obtain⟨w,c,f⟩:=r.get h2;have hl:=r.length;have hn:=xG;have fin:EP X pins σ Q w s:=⟨z,H,I,f,q⟩;exact subscriptTail_builtinR (x:=w) pl.typeIs slot_tuple_getitem.lookup (getItem_tuple (j:=j) (Q:=λr s'=>r=w/\EP X pins σ Q r s') pl (by lia) (by lia) (by rw[c8,<-hl];exact h1) (by simpa using c) ⟨rfl,fin⟩) e
theorem jk:IxR X aer:=by
 intro value slice pins s σ H x y v u Q I f g h e;obtain⟨z,i,c,rfl,rfl,k,d,q⟩:=h;obtain⟨t,rfl⟩:=f;obtain⟨t',rfl⟩:=g;obtain⟨j,h1,h2,h3,h4,h5⟩:=BJ d;have hl:z.cps.toList.length=z.length:=by simp[Str.length]
 rw[hl]at h1 h4 h5;have hn:=xG;exact tail_any (typeIs_str s z t) slot_str_getitem.lookup (getItem_str (c:=c) (by have e1:decide (i< -(2^63:Int))=false:=decide_eq_false (by lia);have e2:decide (i>=2^63)=false:=decide_eq_false (by lia);rw[e1,e2,Bool.or_false]) (by rw[h1];simpa using h2) ⟨.str ⟨#[c]⟩,H,I.tok _,⟨_,rfl⟩,q⟩) e
theorem FL(c:List Value)(n j:Nat)(u:Value):Obj.mapSeq (·.setIfInBounds j u) {cls:= .type "list",data:= .seq c.toArray n}={cls:= .type "list",data:= .seq (c.set j u).toArray n}:=by simp[Obj.mapSeq]
theorem Inv.lst{pins:List (Addr×Obj)}{σ:St}{H:Hp}{s:Shared}{p:Addr}{xs:List V}(I:Inv X pins σ H s)(h:H p=some (.lst xs)):∃(c:List Value)(n:Nat),Vals xs c/\s.heap.get? p=some {cls:= .type "list",data:= .seq c.toArray n}/\xs.length<=sizeLine:=by obtain⟨z,c,n,r,e⟩:=I.cj p _ h;exact⟨c,n,r,e,z⟩
theorem Inv.Ys{pins:List (Addr×Obj)}{σ:St}{H:Hp}{s:Shared}{p:Addr}{xs d:List V}{g its':List Value}{n c:Nat}{f:Obj->Obj}(I:Inv X pins σ H s)(h:H p=some (.lst xs))(i:s.heap.get? p=some {cls:= .type "list",data:= .seq g.toArray n})(hf:f {cls:= .type "list",data:= .seq g.toArray n}={cls:= .type "list",data:= .seq its'.toArray c})(r:Vals d its')(j:d.length<=sizeLine)(t:Nat):Inv X pins σ (upd H p (.lst d)) {s with heap:=s.heap.update p f,toks:=t}:=by
 have e:(s.heap.update p f).get? p=some {cls:= .type "list",data:= .seq its'.toArray c}:=by rw[Cc f i (by rw[hf]<;>rfl),hf]
 refine I.write (x:=p) (e:=p) (by rw[h];trivial) (.inl rfl) (λb u hb q=>(k9 _ _ (Ne.symm hb)).trans q) ⟨_,e⟩ ?_;exact⟨j,its',c,r,e⟩
noncomputable def adb:V->V->V->Hp->(Hp->Prop)->Prop:=λo i v H Q=>∃p xs k j,o= .ref p/\i= .int k/\H p=some (.lst xs)/\V7 xs.length k=some j/\Q (upd H p (.lst (xs.set j v)))
theorem set_list:ab3 X adb:=by
 intro pins s σ H o i v z y u Q I ro ri x h;obtain⟨p,xs,k,j,rfl,rfl,g,m,q⟩:=h;cases ro;obtain⟨t,rfl⟩:=ri;obtain⟨l,n,r,d,w⟩:=I.lst g;obtain⟨h1,h2,h3,h4⟩:=HJ m;have hl:=r.length;have hn:=xG;have e:Inv X pins σ (upd H p (.lst (xs.set j v))) {s with heap:=s.heap.update p (Obj.mapSeq (·.setIfInBounds j u))}:=I.Ys g d (FL l n j u) (r.set x j) (by rw[List.length_set];exact w) s.toks;by_cases f:0<=k
 ·have c:k.toNat=j:=by rw[seqIndex_of f h4]at h1;exact Option.some.inj h1
  exact PySem.W.ki_setAt d f (by lia) (by rw[c8,<-hl];exact h4) (by rw[c];exact⟨_,e,q⟩)
 ·have c:(k+(l.toArray.size:Int)).toNat=j:=by rw[seqIndex_neg (by lia) h3]at h1;rw[c8,<-hl];exact Option.some.inj h1
  exact PySem.W.ki_setBack d (by lia) (by rw[c8,<-hl];exact h3) (by lia) (by rw[c];exact⟨_,e,q⟩)
theorem Cr(lo hi:Option Int)(n:Nat):(sliceBounds lo hi none n).1=((HT.eJ n 0 lo:Nat):Int)/\(sliceBounds lo hi none n).2.1=((HT.eJ n n hi:Nat):Int)/\(sliceBounds lo hi none n).2.2=1:=by
 refine⟨?_,?_,rfl⟩
 ·cases lo with
   |none=>simp[sliceBounds,HT.eJ]
   |some i=>
    simp only[sliceBounds,HT.eJ,Option.getD_none,show(1:Int)>0 by decide,if_true];by_cases h:i<0;·simp only[h,if_true]<;>lia
    ·simp only[h,if_false]<;>lia
 ·cases hi with
   |none=>simp[sliceBounds,HT.eJ]
   |some i=>
    simp only[sliceBounds,HT.eJ,Option.getD_none,show(1:Int)>0 by decide,if_true];by_cases h:i<0;·simp only[h,if_true]<;>lia
    ·simp only[h,if_false]<;>lia
theorem zA(c:List Value)(lo hi:Option Int):slicePick c.toArray lo hi none=((c.drop (HT.eJ c.length 0 lo)).take (HT.eJ c.length c.length hi-HT.eJ c.length 0 lo)).toArray:=by obtain⟨h1,h2,h3⟩:=Cr lo hi c.toArray.size;unfold slicePick;rw[h1,h2,h3];simp only[sliceRange_one,pick_run,c8]<;>rfl
noncomputable def Ts(K:PySem.W.Frag):V->Option Int->Option Int->Hp->VK->Prop:=λx lo hi H Q=>∃a xs,x= .ref a/\bE K H a xs/\∀p,H p=none->Q (.ref p) (upd H p (.lst (gJ xs lo hi)))
theorem dP:SE X (Ts X.K):=by intro pins s σ H x v j k lo hi sl Q I g c pl f h;obtain⟨a,xs,rfl,d,q⟩:=h;cases g;obtain⟨i,r,ht,e⟩:=I.list d;have hlen:=r.length;refine⟨"list",_,slot_list_getitem.lookup,ht.isList.typeIs,?_⟩;refine wpAny_getItem_list_slice ht.isList c pl f .none (by simp) ?_ (by rw[c8]<;>lia);rw[zA,<-hlen];refine⟨.ref s.heap.objs.size,_,I.laid (t':=s.toks) (o:= .lst (gJ xs lo hi)) (λb ob q=>cf _ q) (bN _) ?_,rfl,q _ (I.cj.fresh (bN _))⟩;exact⟨dJ (qD xs lo hi) e,_,0,(r.drop (HT.eJ xs.length 0 lo)).take (HT.eJ xs.length xs.length hi-HT.eJ xs.length 0 lo),gj _ rfl⟩
noncomputable def mQ:V->Bool| .a_=>true| .bl _=>true| .int _=>true| .str _=>true|_=>false
noncomputable def FA:V->V->Bool| .a_, .a_=>true| .bl a, .bl b=>a==b| .bl a, .int b=>(if a then 1 else 0)==b| .int a, .bl b=>a==(if b then 1 else 0)| .int a, .int b=>a==b| .str a, .str b=>a==b|_,_=>false
theorem RH{A:Around}{s:Shared}{y x:V}{u v:Value}(e:RelV y u)(c:RelV x v)(f:mQ y=true)(d:mQ x=true):SeqAt.EqAt A s u v (FA y x):=by
 cases y with
  |a_=>cases e;cases x with|a_=>cases c;exact SeqAt.EqAt.same _|bl b=>cases c;exact SeqAt.EqAt.none_bool b|int b=>obtain⟨t,rfl⟩:=c;exact SeqAt.EqAt.none_int b t|str b=>obtain⟨t,rfl⟩:=c;exact SeqAt.EqAt.none_str b t|_=>exact absurd (show false=true from d) fg
  |bl a=>cases e;cases x with|a_=>cases c;exact SeqAt.EqAt.bool_none a|bl b=>cases c;exact SeqAt.EqAt.bool_bool a b|int b=>obtain⟨t,rfl⟩:=c;exact SeqAt.EqAt.bool_int a b t|str b=>obtain⟨t,rfl⟩:=c;exact SeqAt.EqAt.bool_str a b t|_=>exact absurd (show false=true from d) fg
  |int a=>obtain⟨t',rfl⟩:=e;cases x with|a_=>cases c;exact SeqAt.EqAt.int_none a t'|bl b=>cases c;exact SeqAt.EqAt.int_bool a t' b|int b=>obtain⟨t,rfl⟩:=c;exact SeqAt.EqAt.int_int a t' b t|str b=>obtain⟨t,rfl⟩:=c;exact SeqAt.EqAt.int_str a t' b t|_=>exact absurd (show false=true from d) fg
  |str a=>obtain⟨t',rfl⟩:=e;cases x with|a_=>cases c;exact SeqAt.EqAt.str_none a t'|bl b=>cases c;exact SeqAt.EqAt.str_bool a t' b|int b=>obtain⟨t,rfl⟩:=c;exact SeqAt.EqAt.str_int a t' b t|str b=>obtain⟨t,rfl⟩:=c;exact SeqAt.EqAt.str_str a t' b t|_=>exact absurd (show false=true from d) fg
  |_=>exact absurd (show false=true from f) fg
noncomputable def Uw(x:V)(u:Value):Bool:=match u with| .none=>FA .a_ x| .bool b=>FA (.bl b) x| .int i _=>FA (.int i) x| .str z _=>FA (.str z) x|_=>false
theorem Pp{x y:V}{u:Value}(r:RelV y u)(f:mQ y=true):Uw x u=FA y x:=by cases y with|a_=>cases r;rfl|bl b=>cases r;rfl|int i=>obtain⟨t,rfl⟩:=r;rfl|str z=>obtain⟨t,rfl⟩:=r;rfl|_=>exact absurd (show false=true from f) fg
theorem B3{x:V}:∀{xs:List V}{us:List Value},Vals xs us->xs.all mQ=true->us.any (Uw x)=xs.any λy=>FA y x|_,_, .nil,_=>rfl|y::xs,u::us, .cons r t,f=>by rw[List.all_cons,cW]at f;rw[List.any_cons,List.any_cons,Pp r f.1,B3 t f.2]
theorem yq{A:Around}{s:Shared}{x:V}{v:Value}(e:RelV x v)(d:mQ x=true):∀{xs:List V}{us:List Value},Vals xs us->xs.all mQ=true->∀u∈us,SeqAt.EqAt A s u v (Uw x u)
 |_,_, .nil,_=>λu c=>by cases c
 |y::xs,u::us, .cons r t,f=>λg c=>by
  rw[List.all_cons,cW]at f;rcases List.mem_cons.mp c with rfl|c;·rw[Pp r f.1];exact RH r e f.1 d
  ·exact yq e d t f.2 g c
noncomputable def VG(x:V)(xs:List V):Bool:=xs.any λy=>FA y x
noncomputable def rIn(K:PySem.W.Frag)(neg:Bool):R2:=λx y H Q=>∃p xs,y= .ref p/\(bE K H p xs\/bU K H p xs)/\mQ x=true/\xs.all mQ=true/\Q (.bl (if neg then !VG x xs else VG x xs)) H
theorem iE:ke X (compareOp .In) (rIn X.K false):=by
 intro pins s σ H x y v u Q I e g h;obtain⟨p,xs,rfl,hq,d,fs,q⟩:=h;cases g;rcases hq with hq|hq;·obtain⟨c,r,pl,f⟩:=I.list hq;refine SeqAt.in_listAt (Uw x) pl.isList (λw hw=>yq e d r fs w (by simpa using hw)) ⟨.bl _,H,I,rfl,?_⟩;rw[show c.toArray.any (Uw x)=c.any (Uw x)by simp,B3 r fs];exact q
 ·obtain⟨c,r,pl,f⟩:=I.tuple hq;refine SeqAt.in_tupleAt (Uw x) pl (λw hw=>yq e d r fs w (by simpa using hw)) ⟨.bl _,H,I,rfl,?_⟩;rw[show c.toArray.any (Uw x)=c.any (Uw x)by simp,B3 r fs];exact q
theorem bC:iL X (.builtin "len") (λxs H Q=>∃p c,xs=[.ref p]/\(bE X.K H p c\/bU X.K H p c)/\Q (.int c.length) H):=by
 intro pins s σ H xs us Q I r h;obtain⟨p,c,rfl,hq,q⟩:=h;obtain⟨u,rfl,g⟩:=vals1 r;cases g;have hn:=xG;rcases hq with hq|hq;·obtain⟨f,d,pl,e⟩:=I.list hq;have hlen:=d.length;exact Calls.call_len_list pl.isList (by simp only[c8]<;>lia) ⟨.int c.length,H,I.tok _,⟨s.toks+1,by rw[c8,hlen]⟩,q⟩
 ·obtain⟨f,d,pl,e⟩:=I.tuple hq;have hlen:=d.length;exact len_tuple pl (by simp only[c8]<;>lia) ⟨.int c.length,H,I.tok _,⟨s.toks+1,by rw[c8,hlen]⟩,q⟩
theorem jj:iL X (.type "list") (λxs H Q=>∃p g,xs=[.ref p]/\(bE X.K H p g\/bU X.K H p g)/\∀l,H l=none->Q (.ref l) (upd H l (.lst g))):=by
 intro pins s σ H xs us Q I r h;obtain⟨p,g,rfl,hq,q⟩:=h;obtain⟨u,rfl,k⟩:=vals1 r;cases k;have fin:∀(c:List Value),Vals g c->g.length<=sizeLine->∀(h':Heap)(d:Nat),(∀b o',s.heap.get? b=some o'->h'.get? b=some o')->h'.get? s.heap.objs.size=some {cls:= .type "list",dict:=none,data:= .seq c.toArray d,slots:=#[]}->EP X pins σ Q (.ref s.heap.objs.size) {s with heap:=h'}:=λc f i h' d kp e=>⟨.ref s.heap.objs.size,_,I.laid (t':=s.toks) kp (bN _) (show cK X.prog X.w _ h' _ (.lst g)from⟨i,c,d,f,e⟩),rfl,q _ (I.cj.fresh (bN _))⟩;rcases hq with hq|hq;·obtain⟨c,f,pl,i⟩:=I.list hq;have hlen:=f.length;obtain⟨o,j,hc,n,hd⟩:=pl.isList;exact call_list_seq p (.inl rfl) j hc hd (λh' d kp e=>fin c f i h' d kp e) (by simp only[c8]<;>lia)
 ·obtain⟨c,f,pl,i⟩:=I.tuple hq;have hlen:=f.length;obtain⟨o,j,hc,n,hd⟩:=pl;exact call_list_seq p (.inr rfl) j hc hd (λh' d kp e=>fin c f i h' d kp e) (by simp only[c8]<;>lia)
theorem lK:iL X (.type "tuple") (λxs H Q=>∃p c,xs=[.ref p]/\((bE X.K H p c/\∀l,H l=none->Q (.ref l) (upd H l (.tup c)))\/(bU X.K H p c/\Q (.ref p) H))):=by
 intro pins s σ H xs us Q I r h;obtain⟨p,c,rfl,h⟩:=h;obtain⟨u,rfl,k⟩:=vals1 r;cases k;rcases h with⟨hq,q⟩|⟨hq,q⟩;·obtain⟨d,f,pl,i⟩:=I.list hq;have hlen:=f.length;refine call_tuple_list pl.isList (λh' kp=>?_) (by simp only[c8]<;>lia);have g:Inv X pins σ H {s with heap:=h'}:=I.kept (t':=s.toks) kp;have j:Inv X pins σ (upd H h'.objs.size (.tup c)) {s with heap:=h'.push {cls:= .type "tuple",data:= .seq d.toArray}}:=g.laid (t':=s.toks) (λb o e=>cf _ e) (bN _) (show cK X.prog X.w _ _ _ (.tup c)from⟨i,d,f,IsTup.new _ _⟩);exact⟨.ref h'.objs.size,_,j,rfl,q _ (g.cj.fresh (bN _))⟩
 ·obtain⟨d,f,pl,i⟩:=I.tuple hq;exact call_tuple_same pl ⟨.ref p,H,I,rfl,q⟩
def tyV(K:PySem.W.Frag)(T:String)(x:V)(H:Hp):Prop:=match x with| .str _=>T="str"| .int _=>T="int"| .ref p=>(T="list"/\∃xs,bE K H p xs)\/(T="tuple"/\∃o,K.lookup p=some o/\o.cls= .type "tuple"/\o.dict=none)\/(T="dict"/\((∃aF,H p=some (.dK aF))\/∃aF,H p=some (.dT aF)))\/(T="set"/\∃S n,H p=some (.set S n))|_=>False
theorem Nq{pins:List (Addr×Obj)}{σ:St}{H:Hp}{s:Shared}{T:String}{x:V}{v:Value}(I:Inv X pins σ H s)(r:RelV x v)(ty:tyV X.K T x H):s.TypeIs v T/\∀a,v= .ref a->∃ob,s.heap.get? a=some ob/\ob.dict=none:=by
 cases x with
  |str z=>obtain⟨t,rfl⟩:=r;cases(show T="str"from ty);exact⟨typeIs_str s z t,λ_ e=>nomatch e⟩
  |int i=>obtain⟨t,rfl⟩:=r;cases(show T="int"from ty);exact⟨typeIs_int s i t,λ_ e=>nomatch e⟩
  |ref p=>
   cases r;rcases ty with⟨rfl,xs,hq⟩|⟨rfl,o,d,hc,hd⟩|⟨rfl,d⟩|⟨rfl,S,n,d⟩;·obtain⟨f,_,pl,_⟩:=I.list hq;refine⟨pl.isList.typeIs,λa e=>?_⟩;cases e;obtain⟨o,n,e,c,hd,_⟩:=pl;exact⟨o,e,hd⟩
   ·refine⟨⟨o,I.kK p o d,hc⟩,λa e=>?_⟩;cases e;exact⟨o,I.kK _ o d,hd⟩
   ·have z:∃o,s.heap.get? p=some o/\o.ExactDict:=by
     rcases d with⟨aF,d⟩|⟨aF,d⟩;·obtain⟨_,_,_,_,o,_,_,e,ex,_⟩:=I.cj p _ d;exact⟨o,e,ex⟩
     ·obtain⟨_,_,_,_,o,_,_,e,ex,_⟩:=I.cj p _ d;exact⟨o,e,ex⟩
    obtain⟨o,e,ex⟩:=z;refine⟨⟨o,e,ex.1⟩,λa e2=>?_⟩;cases e2;exact⟨o,e,ex.2.1⟩
   ·obtain⟨o,_,_,_,e,ex,_⟩:=I.cj p _ d;refine⟨⟨o,e,ex.1⟩,λa e2=>?_⟩;cases e2;exact⟨o,e,ex.2.1⟩
  |_=>exact False.elim ty
noncomputable def ae9(K:PySem.W.Frag)(T:String)(r:V->List V->Hp->VK->Prop)(to:TE):TE:=λσ H Q=>to σ H λx c=>tyV K T x c/\r x [] c Q
noncomputable def tBM(K:PySem.W.Frag)(T:String)(r:V->List V->Hp->VK->Prop)(to:TE)(t:TA):TE:=λσ H Q=>to σ H λx c=>tyV K T x c/\t σ c λxs d=>r x xs d Q
variable{o e:Expr}{es:List Expr}{to:TE}{t:TA}{name:Str}{apos eU:Pos}{T id:String}{r:V->List V->Hp->VK->Prop}
theorem YK(l:PlainAttrs T)(slot:Slot T name id)(k:typeOf (.builtin id)=pure (.type "method_descriptor"))(hm:MtR X id r)(j:PE X o to)(g:attributeBase o name X.env (eval o X.env)=eval o X.env:=by rfl)(i:(apos.endLine==eU.line)=true:=by rfl):PE X (.Call (.Attribute o name apos) [] [] eU) (ae9 X.K T r to):=by intro pins s σ H Q I h;refine wpAny_Call_method0_late g i (b9 (j pins s σ H _ I h) λv s1 m=>?_);obtain⟨x,f,c,d,ty,q1⟩:=m;obtain⟨h1,h2⟩:=Nq c d ty;exact⟨T,id,l,slot,k,h1,h2,Calls.callWith_builtin rfl (PySem.evalArgs_none (hm pins s1 σ f x [] v [] Q c d .nil q1))⟩
theorem pM(w:PlainAttrs T)(slot:Slot T name id)(u:typeOf (.builtin id)=pure (.type "method_descriptor"))(hm:MtR X id r)(n:PE X o to)(ha:PA X (e::es) t)(k:attributeBase o name X.env (eval o X.env)=eval o X.env:=by rfl)(l:((backTo eU (starEach (e::es) X.env)).all (λx=>!x.1)&&(backToKw eU (keywordEach [] X.env)).all (λx=>x.1.isSome)&&decide ((e::es).length+([]:List Keyword).length+(if([]:List Keyword).isEmpty then 0 else 1)<30))=true:=by rfl)(m:(apos.endLine==eU.line)=true:=by rfl)(q:starEach (e::es) X.env=(false,eval e X.env)::starEach es X.env:=by rfl)(p:(backTo eU (starEach es X.env)).any (·.1)=false:=by rfl):PE X (.Call (.Attribute o name apos) (e::es) [] eU) (tBM X.K T r to t):=by intro pins s σ H Q I h;refine wpAny_Call_method_late k l m rfl (b9 (n pins s σ H _ I h) λv s1 z=>?_);obtain⟨x,g,c,f,ty,q1⟩:=z;obtain⟨h1,h2⟩:=Nq c f ty;refine⟨T,id,w,slot,u,h1,h2,?_⟩;have d:=ha eU pins s1 σ g _ c q1;rw[q]at d⊢;refine Calls.callWith_builtin (by show(false||(backTo eU (starEach es X.env)).any (·.1))=false;rw[p]<;>rfl) (Calls.evalArgs_plain ?_);exact b9 d λus s2⟨vs,i,j,y,q2⟩=>hm pins s2 σ i x vs v us Q j f y q2
end
noncomputable def MtM(X:Cx)(id:String)(r:V->List V->Hp->VK->Prop):Prop:=∀(pins:List (Addr×Obj))(s:Shared)(σ:St)(H:Hp)(x:V)(xs:List V)(v:Value)(us:List Value)(Q:VK),Inv X pins σ H s->RelV x v->Vals xs us->r x xs H Q->wpAny (model X.prog X.w) X.A (call (.builtin id) (v::us)) (EP X pins σ Q) X.xe s
theorem Vals.one{x:V}{us:List Value}(h:Vals [x] us):∃u,us=[u]/\RelV x u:=by cases h with|cons r e=>cases e;exact⟨_,rfl,r⟩
theorem Vals.two{x y:V}{us:List Value}(h:Vals [x,y] us):∃u v,us=[u,v]/\RelV x u/\RelV y v:=by cases h with|cons r t=>cases t with|cons q e=>cases e;exact⟨_,_,rfl,r,q⟩
theorem Vals.zero:∀{us:List Value},Vals [] us->us=[]|_, .nil=>rfl
theorem Vals.dropLast{xs:List V}{us:List Value}(h:Vals xs us):Vals xs.dropLast us.dropLast:=by induction h with|nil=>exact .nil|cons r t a=>cases t with|nil=>exact .nil|cons q t'=>exact .cons r a
theorem Vals.rep{xs:List V}{us:List Value}(h:Vals xs us):∀k:Nat,Vals (jQ k xs).flatten (jQ k us).flatten|0=> .nil|k+1=>by rw[List.replicate_succ,List.replicate_succ,List.flatten_cons,List.flatten_cons];exact Vals.append h (Vals.rep h k)
theorem G4{d:Type}(l:List d):l.eraseIdx (l.length-1)=l.dropLast:=by
 induction l with
  |nil=>rfl
  |cons a r c=>
   cases r with
    |nil=>rfl
    |cons b r=>
     have e:(a::b::r).length-1=((b::r).length-1)+1:=by have h1:(a::b::r).length=r.length+2:=rfl;have h2:(b::r).length=r.length+1:=rfl;lia
     rw[e,List.eraseIdx_cons_succ,c];all_goals rfl
theorem foldl_rep(b:List Value):∀(k:Nat)(a:List Value),List.foldl (λc d=>c++d) a.toArray (jQ k b.toArray)=(a++(jQ k b).flatten).toArray
 |0,a=>by simp
 |k+1,a=>by
  have e:a.toArray++b.toArray=(a++b).toArray:=by simp
  have e2:(a++b)++(jQ k b).flatten=a++(jQ (k+1) b).flatten:=by rw[List.replicate_succ,List.flatten_cons,List.append_assoc]
  rw[<-e2,<-foldl_rep b k (a++b),<-e,List.replicate_succ,List.foldl_cons]
section
variable{X:Cx}{pins:List (Addr×Obj)}{σ:St}{H:Hp}{s:Shared}{l b:Addr}{xs ys zs:List V}
theorem Inv.Z0{a its':List Value}{n:Nat}{f:Array Value->Array Value}{t':Nat}(I:Inv X pins σ H s)(hH:H l=some (.lst xs))(e:s.heap.get? l=some {cls:= .type "list",data:= .seq a.toArray n})(hf:f a.toArray=its'.toArray)(d:Vals ys its')(g:ys.length<=sizeLine):Inv X pins σ (upd H l (.lst ys)) {s with heap:=s.heap.update l (Obj.mapSeq f),toks:=t'}:=by have q:=PySem.IsL.update e f;rw[hf]at q;refine I.write (x:=l) (e:=l) (by rw[hH];exact trivial) (.inl rfl) (λb' u hb c=>(k9 s.heap (Obj.mapSeq f) (Ne.symm hb)).trans c) ⟨_,q⟩ ?_;exact⟨g,its',_,d,q⟩
theorem Inv.Sj{a:List Value}{t':Nat}(I:Inv X pins σ H s)(c:Vals ys a)(d:ys.length<=sizeLine):Inv X pins σ (upd H s.heap.objs.size (.lst ys)) {s with heap:=s.heap.push {cls:= .type "list",data:= .seq a.toArray},toks:=t'}:=I.laid (λ_ _ q=>cf _ q) (bN _) ⟨d,a,0,c,gj _ rfl⟩
theorem Inv.fresh(I:Inv X pins σ H s):H s.heap.objs.size=none:=I.cj.fresh (bN _)
theorem Inv.F9(I:Inv X pins σ H s)(hH:H l=some (.lst xs)):xs.length<=sizeLine/\∃(a:List Value)(n:Nat),Vals xs a/\xs.length=a.length/\s.heap.get? l=some {cls:= .type "list",data:= .seq a.toArray n}:=by obtain⟨z,a,n,r,e⟩:=I.cj l _ hH;exact⟨z,a,n,r,r.length,e⟩
theorem EH{n:Nat}(h:n<=sizeLine):Builtin.List.listTooLong n=false:=by unfold Builtin.List.listTooLong;exact decide_eq_false (by lia)
end
section
variable{X:Cx}
noncomputable def TN:V->List V->Hp->VK->Prop:=λx vs H Q=>∃l xs y,x= .ref l/\vs=[y]/\H l=some (.lst xs)/\xs.length<sizeLine/\Q .a_ (upd H l (.lst (xs++[y])))
theorem iA:MtM X "list.append" TN:=by intro pins s σ H x vs v us Q I d c h;obtain⟨l,xs,y,rfl,rfl,hH,f,q⟩:=h;cases d;obtain⟨u,rfl,b⟩:=c.one;obtain⟨z,a,n,r,hl,e⟩:=I.F9 hH;refine call_meets F.slot_list_append ⟨_,e,rfl⟩ F.entry_list_append (F.args_list_append_2 _ _) (PySem.list_append l a.toArray n u (by rw[c8];lia)) ⟨e,?_⟩;refine⟨.a_,_,I.Z0 (its':=a++[u]) hH e (by simp) (r.append (.cons b .nil)) ?_,rfl,q⟩;rw[dZ,List.length_singleton];lia
noncomputable def T7:V->List V->Hp->VK->Prop:=λx vs H Q=>∃l b xs a,x= .ref l/\vs=[.ref b]/\H l=some (.lst xs)/\H b=some (.lst a)/\xs.length+a.length<=sizeLine/\Q .a_ (upd H l (.lst (xs++a)))
theorem Mq:MtM X "list.extend" T7:=by
 intro pins s σ H x vs v us Q I m k h;obtain⟨l,b,xs,w,rfl,rfl,hH,d,p,q⟩:=h;cases m;obtain⟨u,rfl,j⟩:=k.one;cases j;obtain⟨z,a,n,r,hl,e⟩:=I.F9 hH;obtain⟨t,c,g,i,o,e2⟩:=I.F9 d;have hsz:a.toArray.size+c.toArray.size<=sizeLine:=by rw[c8,c8];lia
 have f:¬(!a.toArray.isEmpty&&Builtin.List.listTooLong (a.toArray.size+c.toArray.size))=true:=by rw[EH hsz,Bool.and_false];exact fg
 refine call_meets F.slot_list_extend ⟨_,e,rfl⟩ F.entry_list_extend (F.args_list_extend_2 _ _) (AutoSeq1.list_extend_list_list_0 l a.toArray n b c.toArray g f (by rw[c8];lia) (by lia)) ⟨e,e2,?_⟩;refine⟨.a_,_,I.Z0 (its':=a++c) hH e (by simp) (r.append i) ?_,rfl,q⟩;rw[dZ];lia
noncomputable def ad5:V->List V->Hp->VK->Prop:=λx vs H Q=>∃l xs y,x= .ref l/\vs=[]/\H l=some (.lst xs)/\xs[xs.length-1]?=some y/\Q y (upd H l (.lst xs.dropLast))
theorem X5:MtM X "list.pop" ad5:=by
 intro pins s σ H x vs v us Q I j i h;obtain⟨l,xs,y,rfl,rfl,hH,d,q⟩:=h;cases j;have c:=i.zero;subst c;obtain⟨z,a,n,r,hl,e⟩:=I.F9 hH;obtain⟨u,b,g⟩:=r.get d;have f:a.toArray[a.toArray.size-1]?=some u:=by show a.toArray[a.length-1]?=some u;rw[<-Array.getElem?_toList,<-hl];exact b
 refine call_meets F.slot_list_pop ⟨_,e,rfl⟩ F.entry_list_pop (F.args_list_pop_1 _) (MeetsSeq.list_pop_last l a.toArray n u f (by rw[c8];lia)) ⟨e,?_⟩;refine⟨y,_,I.Z0 (its':=a.dropLast) hH e ?_ r.dropLast ?_,g,q⟩;·show a.toArray.eraseIdxIfInBounds (a.toArray.size-1)=a.dropLast.toArray;rw[c8,List.eraseIdxIfInBounds_toArray,G4]
 ·rw[List.length_dropLast];lia
noncomputable def CU:R2:=λx y H Q=>∃l b xs a,x= .ref l/\y= .ref b/\H l=some (.lst xs)/\H b=some (.lst a)/\xs.length+a.length<=sizeLine/\∀p,H p=none->Q (.ref p) (upd H p (.lst (xs++a)))
theorem gM:ke X (binaryOp .Add) CU:=by
 intro pins s σ H x y v u Q I i j h;obtain⟨l,b,xs,t,rfl,rfl,hH,f,m,q⟩:=h;cases i;cases j;obtain⟨z,a,n,r,hl,e⟩:=I.F9 hH;obtain⟨p,c,o,g,k,e2⟩:=I.F9 f;refine PySem.P.add_list e e2 ?_ (by rw[c8,c8];lia);have d:a.toArray++c.toArray=(a++c).toArray:=by simp
 rw[d];exact⟨.ref _,_,I.Sj (t':=s.toks) (r.append g) (by rw[dZ];lia),rfl,q _ I.fresh⟩
noncomputable def ae5:R2:=λx y H Q=>∃l k xs,x= .ref l/\y= .int k/\H l=some (.lst xs)/\-(2^63)<=k/\k<2^63/\xs.length*k.toNat<=sizeLine/\∀p,H p=none->Q (.ref p) (upd H p (.lst (jQ k.toNat xs).flatten))
theorem len_rep{b:Type}(xs:List b)(k:Nat):(jQ k xs).flatten.length=k*xs.length:=by induction k with|zero=>simp|succ k a=>rw[List.replicate_succ,List.flatten_cons,dZ,a,Nat.succ_mul,Nat.add_comm]
theorem Yj:ke X (binaryOp .Mult) ae5:=by
 intro pins s σ H x y v u Q I w A h;obtain⟨l,k,xs,rfl,rfl,hH,h1,h2,f,q⟩:=h;cases w;obtain⟨t,rfl⟩:=A;obtain⟨z,b,n,r,hl,e⟩:=I.F9 hH;have hlen:b.toArray.size*k.toNat<=sizeLine:=by rw[c8,<-hl];exact f
 have i:¬b.toArray.size*k.toNat>(2^63-1)/8:=by
  have :(sizeLine:Nat)<=(2^63-1)/8:=by decide
  lia
 have j:¬(!Builtin.List.listFitsIndex k)=true:=by rw[fitsIndex_both h1 h2];exact fg
 have o:¬Builtin.List.listTooLong (b.toArray.size*k.toNat)=true:=by rw[EH hlen];exact fg
 have p:List.foldl (λc d=>c++d) #[] (jQ (if b.toArray.isEmpty=true then 0 else k.toNat) b.toArray)=(jQ k.toNat b).flatten.toArray:=by
  have g:∀m:Nat,List.foldl (λc d=>c++d) #[] (jQ m b.toArray)=(jQ m b).flatten.toArray:=λm=>by have :=foldl_rep b m [];rw[List.nil_append]at this;exact this
  rw[g];cases b with|nil=>simp|cons a B=>rw[if_neg (by simp)]
 refine wpAny_binaryOp_repeat_ref (T:="list") (U:="int") (by decide) ⟨_,e,rfl⟩ (λs'=>typeIs_int s' k t) noFill_list_mul F.fills_int_mul F.slot_int_rmul repeat_list F.slot_int_index.lookup (call_meets F.slot_int_rmul (typeIs_int s k t) F.entry_int_rmul (F.args_int_rmul_2 _ _) (int___rmul___int_list k t l b.toArray n) ⟨e,rfl,⟨_,e,rfl⟩,call_meets F.slot_list_mul ⟨_,e,rfl⟩ F.entry_list_mul (F.args_list_mul_2 _ _) (AutoListH.list___mul___list_int_3 l b.toArray n k t j i o) ⟨e,?_⟩⟩);rw[p];exact⟨.ref _,_,I.Sj (t':=s.toks) (r.rep k.toNat) (by rw[len_rep,Nat.mul_comm];exact f),rfl,q _ I.fresh⟩
end
section
variable{prog:Program}{w:World}{A:Around}{E:Value->Shared->Prop}{s:Shared}
end
section
variable{X:Cx}
end
section
variable{κ:Type}[DecidableEq κ]
noncomputable def fh(aF:List (κ×V))(k:κ):Option V:=(aF.find? λa=>decide (a.1=k)).map (·.2)
noncomputable def putK(aF:List (κ×V))(k:κ)(v:V):List (κ×V):=if(aF.any λa=>decide (a.1=k))=true then aF.map (λa=>if a.1=k then(a.1,v)else a)else aF++[(k,v)]
theorem fV{p:κ×V}{r:List (κ×V)}{k:κ}(e:p.1=k):fh (p::r) k=some p.2:=by simp[fh,List.find?_cons,e]
theorem fO{p:κ×V}{r:List (κ×V)}{k:κ}(e:¬p.1=k):fh (p::r) k=fh r k:=by simp[fh,List.find?_cons,e]
theorem yL(k:κ):∀aF:List (κ×V),(aF.any λa=>decide (a.1=k))=(fh aF k).isSome
 |[]=>rfl
 |p::r=>by
  rw[List.any_cons];by_cases e:p.1=k;·simp only[fV e,decide_eq_true e,Bool.true_or,Option.isSome_some]
  ·rw[fO e,decide_eq_false e,Bool.false_or];exact yL k r
theorem ky(aF:List (κ×V))(k:κ)(v:V):(putK aF k v).length<=aF.length+1:=by
 unfold putK;split;·rw[cV];lia
 ·rw[dZ,bS,dg];lia
theorem ze.iC{o:Option V}{u:Option Value}(r:ze o u):o.isSome=u.isSome:=by
 cases o with
  |none=>cases u with|none=>rfl|some _=>exact(show False from r).elim
  |some _=>cases u with|none=>exact(show False from r).elim|some _=>rfl
theorem KV.val{aF:List (κ×V)}{vs:List (κ×Value)}(r:KV aF vs)(k:κ):ze (fh aF k) (valueAt vs k):=by
 unfold KV at r;induction r with
  |nil=>exact True.intro
  |@cons p q ps a h t c=>
   obtain⟨h1,h2⟩:=h;by_cases e:p.1=k
   ·have e':q.1=k:=h1.symm.trans e;have b:valueAt (q::a) k=some q.2:=by simp[valueAt,List.find?_cons,e']
    rw[fV e,b];exact h2
   ·have e':¬q.1=k:=λz=>e (h1.trans z);have b:valueAt (q::a) k=valueAt a k:=by simp[valueAt,List.find?_cons,e']
    rw[fO e,b];exact c
theorem KV.any{aF:List (κ×V)}{vs:List (κ×Value)}(r:KV aF vs)(k:κ):(aF.any λa=>decide (a.1=k))=vs.any λa=>decide (a.1=k):=by unfold KV at r;induction r with|nil=>rfl|cons h t b=>rw[List.any_cons,List.any_cons,b,h.1]
theorem KV.Y4{aF:List (κ×V)}{vs:List (κ×Value)}(r:KV aF vs)(k:κ){y:V}{u:Value}(c:RelV y u):KV (aF.map λa=>if a.1=k then(a.1,y)else a) (vs.map λa=>if a.1=k then(a.1,u)else a):=by
 unfold KV at r⊢;induction r with
  |nil=>exact .nil
  |@cons p q ps d h t b=>
   rw[ff,ff];refine .cons ?_ b;obtain⟨h1,h2⟩:=h;by_cases e:p.1=k;·rw[if_pos e,if_pos (h1.symm.trans e)];exact⟨h1,c⟩
   ·rw[if_neg e,if_neg (λz=>e (h1.trans z))];exact⟨h1,h2⟩
theorem KV.put{aF:List (κ×V)}{vs:List (κ×Value)}(r:KV aF vs)(k:κ){y:V}{u:Value}(a:RelV y u):KV (putK aF k y) (stored vs k u):=by
 unfold putK stored;rw[r.any k];by_cases e:(vs.any λb=>decide (b.1=k))=true;·rw[if_pos e,if_pos e];exact r.Y4 k a
 ·rw[if_neg e,if_neg e];exact Paired.snoc r ⟨rfl,a⟩
theorem KV.length{aF:List (κ×V)}{vs:List (κ×Value)}(r:KV aF vs):aF.length=vs.length:=Paired.length r
end
theorem AA{P:Program}{w:World}{k:Key}{u:Value}(r:RelV (kV k) u):(dn P w).is k u=true:=by cases k with|inl i=>obtain⟨t,e⟩:=(show∃t,u=Value.int i t from r);subst e;exact E2 P w i t|inr x=>obtain⟨t,e⟩:=(show∃t,u=Value.str x t from r);subst e;exact C8 P w x t
theorem Av{P:Program}{w:World}:∀{a:List Key}{us:List Value},Vals (a.map kV) us->ItemsAre (dn P w) a us|[],_,r=>by rw[List.map_nil]at r;cases r;exact .nil|k::a,_,r=>by rw[ff]at r;cases r with|cons h t=>exact .cons (AA h) (Av t)
noncomputable abbrev KT(H:Hp):List (List Key×V)->List (List Key×Addr×Value)->Prop:=Paired λp q=>p.1=q.1/\H q.2.1=some (.tup (p.1.map kV))/\RelV p.2 q.2.2
theorem KT.val{H:Hp}{aF:List (List Key×V)}{xs:List (List Key×Addr×Value)}(r:KT H aF xs)(k:List Key):ze (fh aF k) ((atKey xs k).map (·.2)):=by
 induction r with
  |nil=>exact True.intro
  |@cons p q ps a h t c=>
   obtain⟨h1,_,h2⟩:=h;by_cases e:p.1=k
   ·have e':q.1=k:=h1.symm.trans e;have b:atKey (q::a) k=some q.2:=by simp[atKey,List.find?_cons,e']
    rw[fV e,b];exact h2
   ·have e':¬q.1=k:=λz=>e (h1.trans z);have b:atKey (q::a) k=atKey a k:=by simp[atKey,List.find?_cons,e']
    rw[fO e,b];exact c
theorem KT.Y4{H:Hp}{aF:List (List Key×V)}{xs:List (List Key×Addr×Value)}(r:KT H aF xs)(k:List Key){y:V}{u:Value}(c:RelV y u):KT H (aF.map λa=>if a.1=k then(a.1,y)else a) (xs.map (putAt k u)):=by
 induction r with
  |nil=>exact .nil
  |@cons p q ps d h t b=>
   rw[ff,ff];refine .cons ?_ b;obtain⟨h1,h2,h3⟩:=h;unfold putAt;by_cases e:p.1=k;·rw[if_pos e,if_pos (h1.symm.trans e)];exact⟨h1,h2,c⟩
   ·rw[if_neg e,if_neg (λz=>e (h1.trans z))];exact⟨h1,h2,h3⟩
theorem KT.put{H:Hp}{aF:List (List Key×V)}{xs:List (List Key×Addr×Value)}(r:KT H aF xs)(k:List Key){b:Addr}{y:V}{u:Value}(hb:H b=some (.tup (k.map kV)))(a:RelV y u):KT H (putK aF k y) (storedH xs k b u):=by
 have e:(aF.any λc=>decide (c.1=k))=(atKey xs k).isSome:=by rw[yL,(r.val k).iC,Option.isSome_map]
 unfold putK storedH;rw[e];by_cases q:(atKey xs k).isSome=true;·rw[if_pos q,if_pos q];exact r.Y4 k a
 ·rw[if_neg q,if_neg q];exact Paired.snoc r ⟨rfl,hb,a⟩
theorem KT.keeps{H H':Hp}{aF:List (List Key×V)}{xs:List (List Key×Addr×Value)}(r:KT H aF xs)(ht:∀b a,H b=some (.tup a)->H' b=some (.tup a)):KT H' aF xs:=Paired.X4 r λ_ _ z=>⟨z.1,ht _ _ z.2.1,z.2.2⟩
section
variable{P:Program}{w:World}{H:Hp}{h:Heap}{a:Addr}
theorem Vz{u:HO}(ok:jS P w H h)(e:Rd H a u):cK P w H h a u:=e.ok ok
theorem E_{aF:List (Key×V)}(ok:jS P w H h)(e:Rd H a (.dK aF)):aF.length<=sizeLine/\(a==sysModules)=false/\∃vs,KV aF vs/\h.DictOf (dn P w) a vs:=show cK P w H h a (.dK aF)from Vz ok e
theorem Ov{aF:List (Key×V)}(ok:jS P w H h)(e:H a=some (.dK aF)):aF.length<=sizeLine/\(a==sysModules)=false/\∃vs,KV aF vs/\h.DictOf (dn P w) a vs:=E_ ok (.inl e)
theorem zc{b:List Key}(ok:jS P w H h)(e:H a=some (.tup (b.map kV))):(tupleKind (dn P w)).is h b a:=by obtain⟨_,c,r,o,h1,h2,n,h3⟩:=(show cK P w H h a (.tup (b.map kV))from ok a _ e);exact⟨o,c.toArray,n,h1,h2,h3,by simpa using Av r⟩
theorem DF{aF:List (List Key×V)}(ok:jS P w H h)(e:Rd H a (.dT aF)):aF.length<=sizeLine/\(a==sysModules)=false/\∃xs,KT H aF xs/\h.DictOfH (tupleKind (dn P w)) a xs:=by
 obtain⟨z,y,xs,r,o,es,ep,h1,h2,h3,h4,h5⟩:=(show cK P w H h a (.dT aF)from Vz ok e);refine⟨z,y,xs,r,o,es,ep,h1,h2,h3,h4,λx b=>?_,h5⟩;have all:∀{l:List (List Key×V)}{m:List (List Key×Addr×Value)},KT H l m->∀x∈m,(tupleKind (dn P w)).is h x.1 x.2.1:=by
  intro l m q;induction q with
   |nil=>intro x b;exact nomatch b
   |@cons p q ps d hq t c=>
    intro x b;rcases List.mem_cons.mp b with e|b;·subst e;exact zc ok (by rw[<-hq.1];exact hq.2.1)
    ·exact c x b
 exact all r x b
theorem aaE{aF:List (List Key×V)}(ok:jS P w H h)(e:H a=some (.dT aF)):aF.length<=sizeLine/\(a==sysModules)=false/\∃xs,KT H aF xs/\h.DictOfH (tupleKind (dn P w)) a xs:=DF ok (.inl e)
end
noncomputable def l_(H:Hp)(a:Addr)(y:V)(r:Option V):Prop:=(∃aF k,Rd H a (.dK aF)/\y=kV k/\r=fh aF k)\/∃aF k b,Rd H a (.dT aF)/\y= .ref b/\H b=some (.tup (k.map kV))/\r=fh aF k
noncomputable def Gy(H:Hp)(a:Addr)(y v:V)(H':Hp):Prop:=(∃aF k,H a=some (.dK aF)/\y=kV k/\aF.length<sizeLine/\H'=upd H a (.dK (putK aF k v)))\/∃aF k b,H a=some (.dT aF)/\y= .ref b/\H b=some (.tup (k.map kV))/\aF.length<sizeLine/\H'=upd H a (.dT (putK aF k v))
theorem l_.k{H:Hp}{a:Addr}{aF:List (Key×V)}{k:Key}(e:H a=some (.dK aF)):l_ H a (kV k) (fh aF k):= .inl ⟨aF,k, .inl e,rfl,rfl⟩
theorem Gy.k{H:Hp}{a:Addr}{aF:List (Key×V)}{k:Key}{v:V}(e:H a=some (.dK aF))(hl:aF.length<sizeLine):Gy H a (kV k) v (upd H a (.dK (putK aF k v))):= .inl ⟨aF,k,e,rfl,hl,rfl⟩
section
variable{X:Cx}{pins:List (Addr×Obj)}{σ:St}{H:Hp}{s:Shared}{a:Addr}{y v:V}{u r:Value}{o:Option V}{A:Around}{E:Value->Shared->Prop}
theorem Inv.big(I:Inv X pins σ H s):sysModules<s.heap.objs.size:=by have h:mainGlobals<s.heap.objs.size:=(I.mod.glob.keeps I.bk).lt;exact Nat.lt_trans (by decide) h
theorem Mh{Q:Value->Shared->Prop}(t:A.units+1<cLine)(I:Inv X pins σ H s)(g:l_ H a y (some v))(j:RelV y u)(h:∀c s',Inv X pins σ H s'->RelV v c->Q c s'):wpAny (model X.prog X.w) A (getItem (.ref a) u) Q E s:=by
 rcases g with⟨aF,k,e,f,l⟩|⟨aF,k,b,e,f,m,l⟩;·subst f;obtain⟨z,hd,vs,rel,d⟩:=E_ I.cj e;obtain⟨c,hw,i⟩:=ze.some_of (v:=v) (o:=valueAt vs k) (by rw[l];exact rel.val k);exact wpAny_getItem_of (AA j) d.mapOf hw (h c _ (I.tok _) i)
 ·subst f;cases(show u=Value.ref b from j);obtain⟨z,hd,xs,rel,d⟩:=DF I.cj e;obtain⟨c,hw,i⟩:=ze.some_of (v:=v) (o:=(atKey xs k).map (·.2)) (by rw[l];exact rel.val k);obtain⟨p,n,q⟩:=Option.map_eq_some_iff.mp hw;refine wpAny_getItem_heap (tupleKind_room_in1 t) (zc I.cj m) d n ?_;rw[q];exact h c _ (I.tok _) i
theorem aeZ{Q:Value->Shared->Prop}(j:A.units+1<cLine)(I:Inv X pins σ H s)(g:l_ H a y o)(f:RelV y u)(h:∀s',Inv X pins σ H s'->Q (.bool o.isSome) s'):wpAny (model X.prog X.w) A (compareOp .In u (.ref a)) Q E s:=by
 rcases g with⟨aF,k,e,d,l⟩|⟨aF,k,b,e,d,i,l⟩;·subst d;obtain⟨z,hd,vs,rel,c⟩:=E_ I.cj e;refine wpAny_in_of (AA f) hd c.mapOf ?_;rw[<-(rel.val k).iC,<-l];exact h _ (I.tok _)
 ·subst d;cases(show u=Value.ref b from f);obtain⟨z,hd,xs,rel,c⟩:=DF I.cj e;refine wpAny_in_heap (tupleKind_room_in1 j) (zc I.cj i) hd c ?_;have q:=(rel.val k).iC;rw[Option.isSome_map]at q;rw[<-q,<-l];exact h _ (I.tok _)
theorem UK{Q:Value->Shared->Prop}(j:A.units+1<cLine)(I:Inv X pins σ H s)(g:l_ H a y o)(f:RelV y u)(h:∀s',Inv X pins σ H s'->Q (.bool (!o.isSome)) s'):wpAny (model X.prog X.w) A (compareOp .NotIn u (.ref a)) Q E s:=by
 rcases g with⟨aF,k,e,d,l⟩|⟨aF,k,b,e,d,i,l⟩;·subst d;obtain⟨z,hd,vs,rel,c⟩:=E_ I.cj e;refine wpAny_notIn_of (AA f) hd c.mapOf ?_;rw[<-(rel.val k).iC,<-l];exact h _ (I.tok _)
 ·subst d;cases(show u=Value.ref b from f);obtain⟨z,hd,xs,rel,c⟩:=DF I.cj e;refine wpAny_notIn_heap (tupleKind_room_in1 j) (zc I.cj i) hd c ?_;have q:=(rel.val k).iC;rw[Option.isSome_map]at q;rw[<-q,<-l];exact h _ (I.tok _)
theorem Bd{h':Heap}{t':Nat}{ob:HO}(I:Inv X pins σ H s)(f:Mut (H a))(d:Heap.SameBut a s.heap h')(c:∃q,h'.get? a=some q)(new:cK X.prog X.w (upd H a ob) h' a ob):Inv X pins σ (upd H a ob) {s with heap:=h',toks:=t'}:=I.write (x:=a) (e:=a) f (.inl rfl) (λb q hb z=>(d.2 b hb).trans z) c new
theorem G3{P:Program}{w:World}{H':Hp}{h':Heap}{aF:List (Key×V)}{vs:List (Key×Value)}(z:aF.length<=sizeLine)(hd:(a==sysModules)=false)(rel:KV aF vs)(b:h'.DictOf (dn P w) a vs):cK P w H' h' a (.dK aF):=⟨z,hd,vs,rel,b⟩
theorem Mw{H':Hp}{Q:Unit->Shared->Prop}(C:A.units+1<cLine)(I:Inv X pins σ H s)(g:Gy H a y v H')(x:RelV y u)(w:RelV v r)(h:∀s',Inv X pins σ H' s'->Q () s'):wpAny (model X.prog X.w) A (setItem (.ref a) u r) Q E s:=by
 rcases g with⟨aF,k,e,j,l,i⟩|⟨aF,k,b,e,j,p,l,i⟩
 ·subst j i;obtain⟨z,hd,vs,rel,f⟩:=Ov I.cj e;have n:vs.length<=sizeLine:=by rw[<-rel.length];exact z
  have hl:(putK aF k v).length<=sizeLine:=by have :=ky aF k v;lia
  refine wpAny_setItem_pairs (hsz:=n) (AA x) f λh' d m=>h _ ?_;have B:∃q,h'.get? a=some q:=let⟨q,_,_,hq,_⟩:=d;⟨q,hq⟩;exact Bd I (by rw[e];exact True.intro) m B (G3 hl hd (rel.put k w) d)
 ·subst j i;cases(show u=Value.ref b from x);obtain⟨z,hd,xs,rel,f⟩:=aaE I.cj e;have n:xs.length<=sizeLine:=by rw[<-Paired.length rel];exact z
  have hl:(putK aF k v).length<=sizeLine:=by have :=ky aF k v;lia
  refine wpAny_setItem_heap (hsz:=n) (tupleKind_room_in1 C) (zc I.cj p) f λh' d m=>h _ ?_;obtain⟨q,es,ep,hq,h2,h3,h4,_,h5⟩:=d;refine Bd I (by rw[e];exact True.intro) m ⟨q,hq⟩ ⟨hl,hd,_,(rel.put k p w).keeps λc D t=>?_,q,es,ep,hq,h2,h3,h4,h5⟩;rw[aY (WH t e (λz=>nomatch z))];exact t
end
section
variable{X:Cx}{pins:List (Addr×Obj)}{σ:St}{H:Hp}{s:Shared}{a:Addr}{aF:List (Key×V)}{k:Key}{u:Value}{A:Around}{E:Value->Shared->Prop}
end
def Xk(i:Expr):Prop:=∀b a,subscripted i false b a=operate [b,a] (getItem b a)
theorem KI{prog:Program}{w:World}{A:Around}{E:Value->Shared->Prop}{s:Shared}{env:Env}{value slice:Expr}{j:Pos}{T id:String}{Q:Value->Shared->Prop}(hl:typeLookup (.type T) "__getitem__"=pure (some (.builtin id)))(f:Xk slice)(h:wpAny (model prog w) A (eval value env) (λo d=>wpAny (model prog w) A (eval slice env) (λi a=>a.TypeIs o T/\wpAny (model prog w) A (getItem o i) Q E a) E d) E s):wpAny (model prog w) A (eval (.Subscript value slice j) env) Q E s:=by
 refine Subscript_ (gg h (λo d h₁=>gg h₁ (λi a b=>?_) λ_ _ x=>x) λ_ _ x=>x);obtain⟨c,b⟩:=b;unfold subscriptTail;refine az ?_;rw[getitemInPython_of_ne c.not_modules];refine az (wpAny_specialOf c hl ?_);have fin:wpAny (model prog w) A (subscripted slice false o i) (λr e=>wpAny (model prog w) A (letTemporaryGo value o r>>=λ_=>pure r) Q E e) E a:=by rw[f o i];exact wpAny_operating (gg b (λr e g=>az (wpAny_letTemporaryGo (bA g))) λ_ _ x=>x)
 first|exact bA (az fin)|exact az (bA (az fin))|exact az fin
theorem DI{X:Cx}{pins:List (Addr×Obj)}{σ:St}{H:Hp}{s:Shared}{a:Addr}{y:V}{o:Option V}(I:Inv X pins σ H s)(g:l_ H a y o):s.TypeIs (.ref a) "dict":=by
 rcases g with⟨aF,k,e,_,_⟩|⟨aF,k,b,e,_,_,_⟩;·obtain⟨_,_,vs,_,c⟩:=E_ I.cj e;exact c.typeIs
 ·obtain⟨_,_,xs,_,c⟩:=DF I.cj e;exact c.typeIs
noncomputable def acb(td ty:TE):TE:=λσ H Q=>td σ H λx c=>ty σ c λy b=>∃a v,x= .ref a/\l_ b a y (some v)/\Q v b
noncomputable def adW(ty td:TE):TE:=λσ H Q=>ty σ H λy c=>td σ c λx b=>∃a o,x= .ref a/\l_ b a y o/\Q (.bl o.isSome) b
noncomputable def Ui(ty td:TE):TE:=λσ H Q=>ty σ H λy c=>td σ c λx b=>∃a o,x= .ref a/\l_ b a y o/\Q (.bl (!o.isSome)) b
noncomputable def acz(td ty f:TE):TS:=λD σ H=>f σ H λv c=>td σ c λx d=>ty σ d λy e=>∃a b,x= .ref a/\Gy e a y v b/\D.nx σ b
section
variable{X:Cx}{o i e value:Expr}{pos pos' Yb:Pos}{td ty tv:TE}
theorem wW(m:X.A.units+1<cLine)(k:PE X o td)(hi:PE X i ty)(l:Xk i):PE X (.Subscript o i pos) (acb td ty):=by intro pins s σ H Q I h;refine KI PySem.F.slot_dict_getitem.lookup l (b9 (k pins s σ H _ I h) λu s1⟨x,c,f,p,q1⟩=>b9 (hi pins s1 σ c _ f q1) λt s2 r=>?_);obtain⟨y,d,b,q,a,v,ex,g,q2⟩:=r;subst ex;obtain rfl:u=Value.ref a:=p;exact⟨DI b g,Mh m b g q λz w j n=>⟨v,d,j,n,q2⟩⟩
theorem Qj(l:X.A.units+1<cLine)(hi:PE X i ty)(k:PE X o td):PC X .In i o (adW ty td):=by intro pins s σ H Q I h;refine b9 (hi pins s σ H _ I h) λr s1⟨y,b,d,p,q1⟩=>b9 (k pins s1 σ b _ d q1) λu s2 q=>?_;obtain⟨x,c,f,n,a,m,ex,g,q2⟩:=q;subst ex;obtain rfl:u=Value.ref a:=n;exact aeZ l f g p λt j=>⟨.bl m.isSome,c,j,rfl,q2⟩
theorem M7(l:X.A.units+1<cLine)(hi:PE X i ty)(k:PE X o td):PC X .NotIn i o (Ui ty td):=by intro pins s σ H Q I h;refine b9 (hi pins s σ H _ I h) λr s1⟨y,b,d,p,q1⟩=>b9 (k pins s1 σ b _ d q1) λu s2 q=>?_;obtain⟨x,c,f,n,a,m,ex,g,q2⟩:=q;subst ex;obtain rfl:u=Value.ref a:=n;exact UK l f g p λt j=>⟨.bl (!m.isSome),c,j,rfl,q2⟩
theorem AW(p:X.A.units+1<cLine)(m:PE X o td)(hi:PE X i ty)(q:PE X value tv)(n:swapsWith value (some (.Subscript o i pos')) pos.line X.env=pure false):PS X (.Assign [.Subscript o i pos'] value pos) (acz td ty tv):=by intro pins s σ H D I h;refine wpAny_Assign_Subscript (b9 (q pins s σ H _ I h) λr s1⟨v,b,f,t,q1⟩=>b9 (m pins s1 σ b _ f q1) λu s2⟨x,c,j,w,q2⟩=>b9 (hi pins s2 σ c _ j q2) λC E A=>?_) n;obtain⟨y,B,k,z,a,d,ex,g,q3⟩:=A;subst ex;obtain rfl:u=Value.ref a:=w;exact Mw p k g z t λF l=>⟨σ,d,l,q3⟩
end
theorem Fe{P:Program}{w:World}{H:Hp}(h:Heap)(hb:sysModules<h.objs.size):cK P w H (h.push {cls:= .type "dict",data:= .dict #[]}) h.objs.size (.dK []):=⟨fW _,beq_eq_false_iff_ne.mpr (Ne.symm (eN hb)),[], .nil,Heap.DictOf.new h⟩
noncomputable def Yo:TE:=λ_ H Q=>∀p,H p=none->Q (.ref p) (upd H p (.dK []))
section
variable{X:Cx}{pos:Pos}
theorem OT:PE X (.Dict [] [] pos) Yo:=λpins s σ H Q I h=>wpAny_Dict_empty ⟨.ref s.heap.objs.size,_,I.laid (a:=s.heap.objs.size) (o:= .dK []) (t':=s.toks) (λ_ _ q=>cf _ q) (bN _) (Fe s.heap I.big),rfl,h _ (I.cj.fresh (bN _))⟩
end
noncomputable def Ge:List (TE×TE)->St->Hp->(List (V×V)->Hp->Prop)->Prop|[],_,H,Q=>Q [] H|(tk,d)::r,σ,H,Q=>tk σ H λx a=>d σ a λy b=>Ge r σ b λps c=>Q ((x,y)::ps) c
noncomputable abbrev VV:List (V×V)->List (Value×Value)->Prop:=Paired λp q=>RelV p.1 q.1/\RelV p.2 q.2
noncomputable def AY(X:Cx)(a:Pos)(keys:List (Option Expr))(values:List Expr)(b:List (TE×TE)):Prop:=∀(pins:List (Addr×Obj))(s:Shared)(σ:St)(H:Hp)(Q:List (V×V)->Hp->Prop),Inv X pins σ H s->Ge b σ H Q->wpAny (model X.prog X.w) X.A (evalPairs (pairTrees keys values X.env a)) (λvs s'=>∃ps H',Inv X pins σ H' s'/\VV ps vs/\Q ps H') X.xe s
theorem IL{X:Cx}{a:Pos}:AY X a [] [] []:=λpins s σ H Q I h=>pairTrees_nil_walk ⟨[],H,I, .nil,h⟩
theorem fU{X:Cx}{b:Pos}{k v:Expr}{a:List (Option Expr)}{vs:List Expr}{tk d:TE}{c:List (TE×TE)}(m:PE X k tk)(o:PE X v d)(n:AY X b a vs c):AY X b (some k::a) (v::vs) ((tk,d)::c):=λpins s σ H Q I h=>pairTrees_cons_walk (b9 (m pins s σ H _ I h) λu s1⟨x,e,i,p,q1⟩=>b9 (o pins s1 σ e _ i q1) λw2 s2⟨y,f,j,q,q2⟩=>b9 (n pins s2 σ f _ j q2) λws r⟨ps,g,l,rel,q3⟩=>⟨(x,y)::ps,g,l, .cons ⟨p,q⟩ rel,q3⟩)
noncomputable def oy(aF more:List (Key×V)):List (Key×V):=more.foldl (λb a=>putK b a.1 a.2) aF
theorem KV.merge:∀{more:List (Key×V)}{rs:List (Key×Value)}{aF:List (Key×V)}{vs:List (Key×Value)},KV more rs->KV aF vs->KV (oy aF more) (merged vs rs):=by
 intro more rs aF vs r;unfold KV at r;induction r generalizing aF vs with
  |nil=>intro q;exact q
  |@cons p q ps b h t a=>
   intro r0;have e:KV (putK aF p.1 p.2) (stored vs q.1 q.2):=by have :=r0.put p.1 h.2;rw[<-h.1];exact this
   exact a e
theorem k_:∀(more aF:List (Key×V)),(oy aF more).length<=aF.length+more.length|[],aF=>by show aF.length<=aF.length+0;lia|p::r,aF=>by have h1:=k_ r (putK aF p.1 p.2);have h2:=ky aF p.1 p.2;show(oy (putK aF p.1 p.2) r).length<=_;rw[bS];lia
theorem za{P:Program}{w:World}:∀{aF:List (Key×V)}{ws:List (Value×Value)},VV (aF.map λd=>(kV d.1,d.2)) ws->∃rs,Carries (dn P w) ws rs/\KV aF rs|[],_,r=>by rw[List.map_nil]at r;cases r;exact⟨[],True.intro, .nil⟩|p::aF,_,r=>by rw[ff]at r;cases r with|@cons a b as bs h t=>obtain⟨rs,c,q⟩:=za (P:=P) (w:=w) t;obtain⟨b1,b2⟩:=b;exact⟨(p.1,b2)::rs,⟨AA h.1,rfl,c⟩, .cons ⟨rfl,h.2⟩ q⟩
noncomputable def abS(c:List (TE×TE)):TE:=λσ H Q=>∀p,H p=none->Ge c σ (upd H p (.dK [])) λps a=>a p=some (.dK [])/\∃aF:List (Key×V),ps=aF.map (λb=>(kV b.1,b.2))/\aF.length<=15/\Q (.ref p) (upd a p (.dK (oy [] aF)))
theorem K3{X:Cx}{f:Pos}{keys:List (Option Expr)}{values:List Expr}{g:List (TE×TE)}(h:AY X f keys values g)(m:keys.all (·.isSome)=true)(hl:keys.length=values.length)(k:keys≠[])(l:keys.length<=15):PE X (.Dict keys values f) (abS g):=by
 intro pins s σ H Q I q;have hn:=I.cj.fresh (bN s.heap.objs.size);have i:=I.laid (a:=s.heap.objs.size) (o:= .dK []) (h':=s.heap.push {cls:= .type "dict",data:= .dict #[]}) (t':=s.toks) (λ_ _ q=>cf _ q) (bN _) (Fe s.heap I.big);refine wpAny_Dict_walk (knd:=dn X.prog X.w) m hl k l (b9 (h pins _ σ _ _ i (q _ hn)) λws s2 u=>?_);obtain⟨ps,v,b,rel,e,aF,ep,x,q2⟩:=u;subst ep;obtain⟨rs,c,t⟩:=za (P:=X.prog) (w:=X.w) rel;obtain⟨z,hd,y,r0,j⟩:=Ov b.cj e;cases r0;refine⟨rs,c,j,λh' d p=>⟨.ref s.heap.objs.size,_,?_,rfl,q2⟩⟩;have r:(oy [] aF).length<=sizeLine:=by have h1:=k_ aF [];rw[dg]at h1;rw[sizeLine_eq];lia
 have n:∃q,h'.get? s.heap.objs.size=some q:=let⟨q,_,_,hq,_⟩:=d;⟨q,hq⟩;exact Bd b (by rw[e];exact True.intro) p n (G3 r hd (t.merge .nil) d)
structure M1(X:Cx)(o:Expr)(m:Str)(apos:Pos)(e:Expr)(eU:Pos):Prop where
 base:attributeBase o m X.env (eval o X.env)=eval o X.env
 few:((backTo eU (starEach [e] X.env)).all (λx=>!x.1)&&(backToKw eU (keywordEach [] X.env)).all (λx=>x.1.isSome)&&decide (([e]:List Expr).length+([]:List Keyword).length+(if([]:List Keyword).isEmpty then 0 else 1)<30))=true
 line:(apos.endLine==eU.line)=true
 trees:backTo eU (starEach [e] X.env)=[(false,eval e X.env)]
structure M2(X:Cx)(o:Expr)(m:Str)(apos:Pos)(e f:Expr)(eU:Pos):Prop where
 base:attributeBase o m X.env (eval o X.env)=eval o X.env
 few:((backTo eU (starEach [e,f] X.env)).all (λx=>!x.1)&&(backToKw eU (keywordEach [] X.env)).all (λx=>x.1.isSome)&&decide (([e,f]:List Expr).length+([]:List Keyword).length+(if([]:List Keyword).isEmpty then 0 else 1)<30))=true
 line:(apos.endLine==eU.line)=true
 trees:backTo eU (starEach [e,f] X.env)=[(false,eval e X.env),(false,eval f X.env)]
section
variable{X:Cx}{pins:List (Addr×Obj)}{σ:St}{H:Hp}{s:Shared}{a:Addr}{y d:V}{u r:Value}{o:Option V}{A:Around}{E:Value->Shared->Prop}
end
section
variable{X:Cx}{o e f:Expr}{apos eU:Pos}{td ty tx:TE}
end
section
variable{X:Cx}{pins:List (Addr×Obj)}{σ:St}{H:Hp}{s:Shared}{a:Addr}{aF:List (Key×V)}{A:Around}{E:Value->Shared->Prop}
end
section
variable{X:Cx}{pins:List (Addr×Obj)}{σ:St}{H:Hp}{s:Shared}{a:Addr}{y:V}{u:Value}{A:Around}{E:Value->Shared->Prop}
end
end L2
end
section
namespace Att
open PySem PySem.W PySem.Calls PyProof.Rows
theorem qL{P:Params}{h:Heap}:∀(ns:List Int)(vs:List Value),WellAll P h vs (ns.map WData.int)->IntsAre vs ns:=by intro ns;induction ns with|nil=>intro vs w;rw[List.map_nil]at w;cases w;exact .nil|cons n ns c=>intro vs w;rw[ff]at w;cases w with|cons a b=>cases a;exact .cons _ _ (c _ b)
theorem LN{l:OpenLaw}{n:Nat}(hn:l.most=some n){P:Params}{h:Heap}{args:List WData}{vals:List Value}(b:l.row.toRowW.claim.pre args=true)(g:WellAll P h vals args):∃a vs ns,vals=[Value.ref a]/\args=[WData.list (ns.map WData.int)]/\h.get? a=some {cls:= .type "list",data:= .seq vs.toArray}/\IntsAre vs ns/\ns.length<=n:=by
 have f:WShape.hasAll [] args [.list .int]=true:=(pre_splitW b).1;have hc:l.pre.holds [] {args:=args}=true:=(pre_splitW b).2;obtain⟨d,r,rfl,h1,h2⟩:=hasAllW_cons f;obtain rfl:=hasAllW_nil h2;obtain⟨xs,rfl,h3⟩:=hasW_list h1;obtain⟨ns,rfl⟩:=items_int h3;have hlen:ns.length<=n:=by
  unfold OpenLaw.pre at hc;have h4:(WTm.not (.lt (.lit (.int (n:Int))) (.len (.arg 0)))).holds [] {args:=[.list (ns.map .int)]}=true:=by have h4:=(holds_andW hc).1;rw[hn]at h4;exact h4
  have h5:=condW_of h4 (w_not (w_lt w_lit (w_len_list (w_arg rfl))));rw[cV]at h5;refine Nat.le_of_not_lt λq=>?_;have i:(n:Int)<((ns.length:Nat):Int):=by lia
  first|(rw[decide_eq_true i]at h5;exact absurd h5 (by decide))|(simp at h5;lia)
 cases g with|cons w1 w2=>cases w2;cases w1 with|list e c=>exact⟨_,_,ns,rfl,rfl,e,qL ns _ c,hlen⟩
theorem L6(l:OpenLaw)(args:List WData):l.row.toRowW.claim.post args (.bool true) args=true:=postW_of (r:=l.row.toRowW) (X:=(true==true)) (show WShape.has [] (.bool true) .bool=true by first|rfl|decide|simp[WShape.has,WShape.arms,WShape.armsAll]) (show(WTm.eq .res (.lit (.bool true))).value [] {args:=args,res:=some (.bool true),after:=args}=some (.bool (true==true))from w_eq_bool (w_res rfl) w_lit) rfl
theorem Fj{l:OpenLaw}{n:Nat}{q:Program}{loose:List Str}{XP:(Str->Option Value)->Heap->Prop}{YP:World->Heap->Prop}{d:DefRec}(hn:l.most=some n)(h:d.params.defaults=[])(call:∀(w:World)(cD b:Shared)(mg mb:Str->Option Value)(fa:Addr)(o:Obj)(pm cd doc:Value)(a:Addr)(vs:List Value)(ns:List Int),Ground q loose [] XP w cD mg mb b.heap->YP w b.heap->b.heap.get? fa=some o->o.data= .func (docDef d.name d.params d.body d.scope pm cd doc)->b.heap.CodeRec cd d.name->mg d.name=some (.ref fa)->b.heap.get? a=some {cls:= .type "list",data:= .seq vs.toArray}->IntsAre vs ns->ns.length<=n->b.gens=#[]->codeAny (model l.prog w) callerA (.call (.ref fa) ⟨[.ref a],[]⟩) (λr s'=>r= .ok (.ret (.bool true))/\OldK b.heap s'.heap/\s'.os=b.os/\AllBare s'.gens) b):WalkO q loose XP YP l.row.toRowW d [] (λf vs=>PySem.call f vs):=by intro w cD b mg mb G Y fa o pm cd doc e kV j hd g c hmg i args vals as m s u p t;obtain rfl:e= .none:=Dflts.none c h;obtain rfl:kV= .none:=Dflts.noKw c;obtain⟨a,vs,ns,rfl,rfl,k,hints,hlen⟩:=LN hn m p;refine enter_call (codeAny_mono (call w cD b mg mb fa o pm cd doc a vs ns G Y j (fd_plain hd) g hmg k hints hlen i) λr s' hq=>?_);obtain⟨rfl,h2,h3,h4⟩:=hq;exact⟨.inl ⟨.bool true, .bool true,[],rfl,λ_=>rfl, .bool true,L6 l _,λ_=>⟨List.Pairwise.nil,λ_ hm=>(nomatch hm)⟩⟩,h2,h3,h4⟩
section
variable{prog:Program}{w:World}{A:Around}{E:Value->Shared->Prop}{s:Shared}{K:Frag}
end
end Att
end
section
namespace L2
open PySem PySem.Spec PyProof.Rows
theorem Aj:∀{vs:List Value}{ns:List Int},IntsAre vs ns->Vals (ns.map V.int) vs|_,_, .nil=> .nil|_,_, .cons n t h=> .cons ⟨t,rfl⟩ (Aj h)
noncomputable abbrev KOf{K:PySem.W.Frag}{h:Heap}(_:K.In h):PySem.W.Frag:=K
noncomputable def inClass(s:Stmt)(j:Nat):Stmt:=match s with| .ClassDef _ _ _ body _ _ _ _ _ _ _=>body.getD j (.Pass ⟨0,0,0,0⟩)|_=> .Pass ⟨0,0,0,0⟩
noncomputable def gq(s:Stmt):Arguments:=match s with| .FunctionDef _ a _ _ _ _ _ _ _ _=>a|_=>{posonlyargs:=[],args:=[],vararg:=none,kwonlyargs:=[],kw_defaults:=[],kwarg:=none,defaults:=[]}
noncomputable def cU(s:Stmt):List Stmt:=match s with| .FunctionDef _ _ b _ _ _ _ _ _ _=>b|_=>[]
noncomputable def ar(s:Stmt):Scope:=match s with| .FunctionDef _ _ _ _ _ _ sc _ _ _=>sc|_=>{kind:= .function,names:=[],isGenerator:=false,isCoroutine:=false}
noncomputable abbrev bF:oX:=λ_ _ _ _ _ _ _=>False
noncomputable abbrev E0:XK:=λ_ _ _=>False
theorem aM{X:Cx}:Passes bF X E0:=λ_ _ _ _ _ _ _ h=>h.elim
structure Wm(K:PySem.W.Frag)(x qual:Str)(st:Stmt)(f:Addr)(fd:FuncData):Prop where
 ex:∃(oc:Value)(od:Option Addr)(kV doc pm:Value)(an:Option Addr)(cZ ct:Value)(DA:Array (Option Value)),fd=PySem.W.fnOf x qual (gq st) (cU st) (ar st) .none kV doc pm an cZ ct/\K.lookup f=some ⟨oc,od, .func fd,DA⟩/\PySem.W.codeIn K cZ qual=true
 kp:PySem.W.keepIn K (.ref f)=true
section
variable{P:Program}{w:World}{K:PySem.W.Frag}{mg:Str->Option Value}{base:Heap}
theorem Wm.ok{x qual:Str}{st:Stmt}{f:Addr}{fd:FuncData}{N ps:List Str}{k:Nat}{sp:Sp}(F:Wm K x qual st f fd)(S:aT N ps (ar st))(len:∀vs H Q E,sp vs H Q E->vs.length=ps.length)(a:∀(cZ:Value)(A:Around)(outer:List Env)(s:Shared)(H:Hp)(vs:List V)(Q:VK)(E:XK),da k (A.deeper (envOfC qual (ar st) s.heap.objs.size f cZ))->sp vs H Q E->∃t,iO (fE bF P w K mg base N qual (ar st) f cZ A outer s H E).Nc (cU st) t/\t {nx:=λ_ H'=>Q .a_ H',rt:=Q} (start N vs) H):oD P w K mg base bF (k+1) f fd ps sp:=by obtain⟨oc,od,kV,doc,pm,an,cZ,ct,DA,rfl,e,b⟩:=F.ex;refine HN e b S len λA outer s H vs Q E c d=>?_;obtain⟨t,h,q⟩:=a cZ A outer s H vs Q E c d;exact⟨t,h.Nc,q⟩
theorem Wm.binds{x qual:Str}{st:Stmt}{f:Addr}{fd:FuncData}{ps:List Str}(F:Wm K x qual st f fd)(h:∀(kV doc pm:Value)(an:Option Addr)(cZ ct:Value)(us:List Value),us.length=ps.length->bindArgs (PySem.W.fnOf x qual (gq st) (cU st) (ar st) .none kV doc pm an cZ ct) ⟨us,[]⟩=pure (ps.zip us)):Binds K fd ps []:=by obtain⟨oc,od,kV,doc,pm,an,cZ,ct,DA,rfl,b,a⟩:=F.ex;exact .all (h kV doc pm an cZ ct)
theorem NJ{x qual:Str}{st:Stmt}{f:Addr}{oc:Value}{od an:Option Addr}{DA:Array (Option Value)}{kV doc pm cZ ct:Value}(l:K.lookup f=some ⟨oc,od, .func (PySem.W.fnOf x qual (gq st) (cU st) (ar st) .none kV doc pm an cZ ct),DA⟩)(c:PySem.W.codeIn K cZ qual=true)(k:PySem.W.keepIn K (.ref f)=true):Wm K x qual st f (PySem.W.fnOf x qual (gq st) (cU st) (ar st) .none kV doc pm an cZ ct):=⟨⟨oc,od,kV,doc,pm,an,cZ,ct,DA,rfl,l,c⟩,k⟩
end
theorem ql{A:Around}{k:Nat}(a:da k A):A.units+1<cLine:=Nat.lt_of_le_of_lt (Nat.add_le_add_left (by decide:1<=64) _) a.units
section
variable{X:Cx}
theorem pv(i:Nat){x:Str}{d:Pos}(a:X.N[i]?=some x:=by rfl)(c:Vis X.env.scope x:=by first|exact Or.inl rfl|exact Or.inr (Or.inl rfl)|exact Or.inr (Or.inr rfl))(hd:(x==("__debug__":Str))=false:=by decide)(b:(x==("__classdict__":Str))=false:=by decide):PE X (.Name x d) (zw i):=Qi a c hd b
end
theorem jZ{A B:Prop}(h:B):if false=true then A else B:=by rw[if_neg fg];exact h
theorem lZ{A B:Prop}(h:A):if true=true then A else B:=by rw[if_pos rfl];exact h
theorem ba{c A B:Prop}[Decidable c](h1:c->A)(h2:¬c->B):if c then A else B:=by
 by_cases h:c;·rw[if_pos h];exact h1 h
 ·rw[if_neg h];exact h2 h
def aQ(H H':Hp):Prop:=∀b o,H b=some o->H' b=some o
theorem aQ.refl(H:Hp):aQ H H:=λ_ _ h=>h
theorem aQ.trans{H d e:Hp}(a:aQ H d)(b:aQ d e):aQ H e:=λc o h=>b c o (a c o h)
theorem aQ.free{H H':Hp}(e:aQ H H'){l:Addr}(h:H' l=Option.none):H l=Option.none:=by cases q:H l with|none=>rfl|some o=>rw[e l o q]at h;cases h
section
variable{X:Cx}
end
section
variable{κ:Type}[DecidableEq κ]
theorem Us{aF:List (κ×V)}{k:κ}{v:V}(h:fh aF k=some v):k∈aF.map (·.1):=by
 have q:(aF.any λb=>decide (b.1=k))=true:=by rw[yL,h];all_goals rfl
 obtain⟨p,a,e⟩:=List.any_eq_true.mp q;exact List.mem_map.mpr ⟨p,a,of_decide_eq_true e⟩
end
end L2
end
section
namespace L3
open PySem PySem.Spec PyProof.Rows L2
noncomputable def eI(env:Env):List (Str×NameKind)->List (Str×Addr)->List (Str×Addr)|[],cs=>cs|(n,k)::r,cs=>eI env r (if(k== .free)=true then(n,(env.cells.lookup n).getD 0)::cs else cs)
theorem xf{env:Env}{scope:Scope}(h:∀x∈scope.names,x.2= .free->∃c,env.cells.lookup x.1=some c):closureFor scope env=pure (eI env scope.names []):=by
 unfold closureFor;have go:∀(l:List (Str×NameKind))(cs:List (Str×Addr)),(∀x∈l,x.2= .free->∃c,env.cells.lookup x.1=some c)->(forIn l cs λ(x:Str×NameKind)(r:List (Str×Addr))=>if(x.2== .free)=true then(do let a<-cellOf env x.1;pure (ForInStep.yield ((x.1,a)::r)))else pure (ForInStep.yield r):Sem (List (Str×Addr)))=pure (eI env l cs):=by
  intro l;induction l with
   |nil=>intro cs _;rfl
   |cons x l f=>
    intro cs hl;obtain⟨n,k⟩:=x;have d:∀y∈l,y.2= .free->∃c,env.cells.lookup y.1=some c:=λy g=>hl y (eA _ g);rw[List.forIn_cons,eI];by_cases b:(k==NameKind.free)=true
    ·obtain⟨c,hc⟩:=hl (n,k) eD (by simpa using b);have hc:env.cells.lookup n=some c:=hc;have e:cellOf env n=pure c:=by unfold cellOf;rw[hc]
     simp only[b,if_true,e,pure_bind,hc,Option.getD_some];exact f _ d
    ·simp only[b,if_false,pure_bind];exact f _ d
 have q:=go scope.names [] h;simp only[bind_pure];exact q
theorem om{env:Env}{x:Str}:∀(l:List (Str×NameKind))(cs:List (Str×Addr)),(∃c,cs.lookup x=some c)->∃c,(eI env l cs).lookup x=some c
 |[],_,h=>h
 |(n,k)::r,cs,h=>by
  rw[eI];refine om r _ ?_;by_cases a:(k==NameKind.free)=true;·rw[if_pos a,nQ];cases x==n with|true=>exact⟨_,rfl⟩|false=>exact h
  ·rw[if_neg a];exact h
theorem km{env:Env}{x:Str}:∀(l:List (Str×NameKind))(cs:List (Str×Addr)),(x,NameKind.free)∈l->∃c,(eI env l cs).lookup x=some c
 |[],_,h=>by cases h
 |(n,k)::r,cs,h=>by
  rw[eI];rcases List.mem_cons.mp h with e|h;·cases e;refine om r _ ?_;rw[if_pos (by decide),nQ,beq_self_eq_true];exact⟨_,rfl⟩
  ·exact km r _ h
theorem ly{env:Env}:∀(l:List (Str×NameKind))(cs:List (Str×Addr)),(∀x∈l,x.2= .free->∃c,env.cells.lookup x.1=some c)->(∀x c,cs.lookup x=some c->env.cells.lookup x=some c)->∀x c,(eI env l cs).lookup x=some c->env.cells.lookup x=some c
 |[],_,_,h=>h
 |(n,k)::r,cs,hl,h=>by
  rw[eI];refine ly r _ (λy g=>hl y (eA _ g)) λx c e=>?_;by_cases b:(k==NameKind.free)=true
  ·rw[if_pos b,nQ]at e;cases d:x==n with
    |true=>
     rw[d]at e;obtain rfl:x=n:=by simpa using d
     obtain⟨f,a⟩:=hl (x,k) eD (by simpa using b);have a:env.cells.lookup x=some f:=a;rw[a]at e⊢;exact e
    |false=>rw[d]at e;exact h x c e
  ·rw[if_neg b]at e;exact h x c e
theorem nI{env:Env}:∀{l:List (Str×NameKind)}{x:Str},l.lookup x=some .free->(l.map λ(p:Str×NameKind)=>if(p.2==NameKind.free&&env.scope.kind== .function&&env.kindOf p.1==some .cell)then(p.1,NameKind.cell)else(p.1,p.2)).lookup x=some .cell\/(l.map λ(p:Str×NameKind)=>if(p.2==NameKind.free&&env.scope.kind== .function&&env.kindOf p.1==some .cell)then(p.1,NameKind.cell)else(p.1,p.2)).lookup x=some .free
 |[],_,h=>by simp at h
 |(n,k)::r,x,h=>by
  have b:=@nI env r x;rw[nQ]at h;rw[ff];by_cases hc:(k==NameKind.free&&env.scope.kind== .function&&env.kindOf n==some .cell)=true;·simp only[hc,if_true];rw[nQ];cases a:x==n with|true=>exact .inl rfl|false=>rw[a]at h;exact b h
  ·simp only[hc,Bool.false_eq_true,if_false];rw[nQ];cases a:x==n with|true=>rw[a]at h;exact .inr h|false=>rw[a]at h;exact b h
theorem yU{env:Env}:∀{l:List (Str×NameKind)}{x:Str},(∀y∈l,y.2≠ .cell)->((l.map λ(p:Str×NameKind)=>if(p.2==NameKind.free&&env.scope.kind== .function&&env.kindOf p.1==some .cell)then(p.1,NameKind.cell)else(p.1,p.2)).lookup x=some .cell\/(l.map λ(p:Str×NameKind)=>if(p.2==NameKind.free&&env.scope.kind== .function&&env.kindOf p.1==some .cell)then(p.1,NameKind.cell)else(p.1,p.2)).lookup x=some .free)->(x,NameKind.free)∈l
 |[],_,_,h=>by simp at h
 |(n,k)::r,x,hl,h=>by
  have b:=@yU env r x λy c=>hl y (eA _ c);rw[ff]at h;by_cases hc:(k==NameKind.free&&env.scope.kind== .function&&env.kindOf n==some .cell)=true
  ·simp only[hc,if_true]at h;rw[nQ]at h;cases a:x==n with
    |true=>
     obtain rfl:x=n:=by simpa using a
     have :k= .free:=by simp only[cW]at hc;simpa using hc.1.1
     rw[this];exact eD
    |false=>rw[a]at h;exact eA _ (b h)
  ·simp only[hc,Bool.false_eq_true,if_false]at h;rw[nQ]at h;cases a:x==n with
    |true=>
     rw[a]at h;obtain rfl:x=n:=by simpa using a
     rcases h with h|h;·exact absurd (Option.some.inj h) (hl (x,k) eD)
     ·have :k= .free:=Option.some.inj h;rw[this];exact eD
    |false=>rw[a]at h;exact eA _ (b h)
noncomputable abbrev GY(X:Cx)(scope:Scope)(C:Addr):Env:=compEnvC scope (eI X.env scope.names []) C X.env
noncomputable abbrev d9(X:Cx)(N':List Str)(scope:Scope)(a:Shared)(b:Hp)(fp:List Addr):Cx:={X with N:=N',cD:=a,H₀:=b,env:=GY X scope a.heap.objs.size,outer:=X.stack,stack:=X.stack,ex:=fp,fn:=λ_=>false,pn:=X.pn,xe:=λ_ _=>False}
noncomputable def ic(own:Nat)(fr:List Nat)(σ:L2.St):L2.St:=jQ own none++fr.map λi=>(σ[i]?).join
structure nH(X:Cx)(N':List Str)(own:Nat)(fr:List Nat)(scope:Scope):Prop where
 kind:scope.kind= .function
 oz:∀y∈scope.names,y.2≠ .cell
 loc:∀x∈scope.names,x.2= .local->scope.names.lookup x.1=some .local
 free:∀x∈scope.names,x.2= .free->X.env.kindOf x.1=some .cell\/X.env.kindOf x.1=some .free
 len:N'.length=own+fr.length
 fr:∀j i,fr[j]?=some i->∃x,N'[own+j]?=some x/\X.N[i]?=some x/\scope.names.lookup x=some .free
theorem yA{fs ex:List Addr}{H H':Hp}{h h1 h2:Heap}{C:Addr}(u:Un fs ex H H' h h1)(d:h.objs.size<=C)(c:Heap.SameBut C h1 h2):Un fs ex H H' h h2:=by
 have ne:∀b o,h.get? b=some o->b≠C:=λb o e=>eN (gP (b_ e) d);refine⟨λb o e n hb a=>(c.2 b (ne b o e)).trans (u.keep b o e n hb a),λb o e n hb a=>?_,u.free,λb o e a=>?_,u.yk,u.qR,u.qS⟩;·obtain⟨sl,q⟩:=u.slot b o e n hb a;exact⟨sl,(c.2 b (ne b o e)).trans q⟩
 ·obtain⟨o',q⟩:=u.there b o e a;exact⟨o',(c.2 b (ne b o e)).trans q⟩
theorem Eb{P:Program}{w:World}{H:Hp}{h h2:Heap}{C:Addr}(k:jS P w H h)(a:H C=none)(d:Heap.SameBut C h h2):jS P w H h2:=λb ob e=>by
 refine(k b ob e).xm (λc f hc q=>(d.2 c ?_).trans q) (λ_ q=>q) λ_ _ q=>q;rintro rfl;rcases hc with rfl|hc;·rw[a]at e;cases e
 ·rw[a]at hc;cases hc
noncomputable def A8(Y:Cx)(a:List Expr)(b:TT):Prop:=∀(pins:List (Addr×Obj))(s:Shared)(σ:L2.St)(H:Hp)(Q:Bool->Hp->Prop),Inv Y pins σ H s->b σ H Q->wpAny (model Y.prog Y.w) Y.A (forIn a true λc r=>if r=true then do let ok<-isTrue c Y.env (eval c Y.env);pure (ForInStep.yield ok)else pure (ForInStep.yield r)) (TP Y pins σ Q) Y.xe s
noncomputable def BW:TT:=λ_ H Q=>Q true H
theorem nA{Y:Cx}:A8 Y [] BW:=λ_ _ _ H _ I h=>wpAny_tests_nil ⟨H,I,h⟩
theorem A1{Y:Cx}{c:Expr}{t:TT}(h:PT Y c t):A8 Y [c] t:=λpins s σ H Q I hq=>wpAny_tests_one (h pins s σ H Q I hq)
section
variable{prog:Program}{w:World}{A:Around}{R:Result->Shared->Prop}{s:Shared}
theorem qi{b target iter:Expr}{d:List Expr}{scope:Scope}{j:Pos}{it a:Value}{env:Env}(J:Nat->Shared->Prop)(turn:∀n s,J n s->wpAny (model prog w) A (pyNext it) (λr e=>match r with|none=>R (.ok .next) e|some v=>wpAny (model prog w) A (letOwnedTupleGo target it v) (λ_ cD=>wpAny (model prog w) A (assign target env v) (λ_ k=>wpAny (model prog w) A (forIn d true λc r=>if r=true then do let ok<-isTrue c env (eval c env);pure (ForInStep.yield ok)else pure (ForInStep.yield r)) (λok g=>if ok=true then wpAny (model prog w) A (eval b env) (λx l=>wpAny (model prog w) A (call (.builtin "list.append") [a,x]) (λ_ o=>∃m,m<n/\J m o) (λ_ _=>False) l) (λ_ _=>False) g else∃m,m<n/\J m g) (λ_ _=>False) k) (λ_ _=>False) cD) (λ_ _=>False) e) (λ_ _=>False) s)(n:Nat)(h:J n s):codeAny (model prog w) A (.compLoop (.ListComp b [⟨target,iter,d,0⟩] scope j) 0 it a env) R s:=by refine codeAny_loop rfl J (λn s u=>?_) n h;show wpAny _ A ((compTurn (.ListComp b [⟨target,iter,d,0⟩] scope j) 0 it a env).onRaise (λx=>do noteFrame x env;theTreesLotGoes x)) _ _ s;refine wpAny_noted ?_;rw[compTurn_list];have no:∀{p:Type}{m:Sem p}{Q:p->Shared->Prop}{t:Value->Shared->Prop}{s':Shared},wpAny (model prog w) A m Q (λ_ _=>False) s'->wpAny (model prog w) A m Q t s':=λhm=>gg hm (λ_ _ q=>q) λ_ _ f=>f.elim;refine az (wpAny_standAt (az (no (gg (turn n s u) (λr e h₁=>?_) λ_ _ h'=>h'))));cases r with|none=>exact bA h₁|some v=>refine az (no (gg h₁ (λ_ cD h₀=>az (no (gg h₀ (λ_ k y=>az (no (gg y (λok g i=>?_) λ_ _ h'=>h'))) λ_ _ h'=>h'))) λ_ _ h'=>h'));cases ok with|false=>exact bA ⟨rfl,i⟩|true=>exact az (az (no (gg i (λx l z=>az (no (gg z (λ_ o B=>bA (bA ⟨rfl,B⟩)) λ_ _ h'=>h'))) λ_ _ h'=>h')))
end
def Own(own:Nat)(g:TG):Prop:=∀v σ H Q,g v σ H Q->g v σ H λa b=>Q a b/\a.length=σ.length/\∀i,own<=i->a[i]?=σ[i]?
theorem gU{own i:Nat}(h:i<own):Own own (n8 i):=λv σ H Q q=>⟨q,by simp,λj a=>List.getElem?_set_ne (by lia)⟩
theorem NR{own i j n:Nat}{K:PySem.W.Frag}(hi:i<own)(f:j<own):Own own (abX K n (NF (n8 i) (NF (n8 j) acy))):=by intro v σ H Q q;obtain⟨a,xs,e1,e2,e3,x,r,b,y,e,c,d,q⟩:=q;refine⟨a,xs,e1,e2,e3,x,r,b,y,e,c,d,q,by simp,λk g=>?_⟩;rw[List.getElem?_set_ne (by lia),List.getElem?_set_ne (by lia)]
noncomputable def VQ(own:Nat)(fr:List Nat)(o:TI)(g:TG)(n:TT)(l:TE):TE:=λσ H Q=>o σ H λJ d=>∀p,d p=none->∃W:Nat->Nat->List V->Hp->Prop,(∃m,W 0 m [] (upd d p (.lst [])))/\∀i m a b,W i m a b->(J.stop i b/\Q (.ref p) b)\/(J.go i b/\∀x e,J.yW i b x e->g x (ic own fr σ) e λj k=>n j k λok f=>if ok=true then l j f λv h=>h p=some (.lst a)/\a.length<sizeLine/\∃c,c<m/\W (i+1) c (a++[v]) (upd h p (.lst (a++[v])))else∃c,c<m/\W (i+1) c a f)
theorem JW{X:Cx}{scope:Scope}{N':List Str}{own:Nat}{fr:List Nat}{pins:List (Addr×Obj)}{σ:L2.St}{f:Hp}{d:Shared}{h4:Heap}{fp:List Addr}{t4:Nat}{m:Str->Option Value}(S:nH X N' own fr scope)(a:Inv X pins σ f d)(g:∀b∈fp,m9 X pins f b/\b<d.heap.objs.size)(keep:∀b o,d.heap.get? b=some o->h4.get? b=some o)(C:h4.Ns d.heap.objs.size m):Inv (d9 X N' scope d f fp) [] (ic own fr σ) f {d with heap:=h4,toks:=t4}:=by
 have A:∀x∈scope.names,x.2= .free->∃c,X.env.cells.lookup x.1=some c:=λx n e=>a.ok.has x.1 (S.free x n e);have snd:∀x c,(eI X.env scope.names []).lookup x=some c->X.env.cells.lookup x=some c:=ly _ _ A λx c e=>by simp at e
 have ok:(d9 X N' scope d f fp).Ok:=by
  refine⟨a.ok.mod,S.kind,a.ok.glob,a.ok.blt,bN _,λx y c e1 e2=>a.ok.inj x y c (snd x c e1) (snd y c e2),λx n=>km _ _ (yU S.oz n),λx c z=>(by cases z),a.ok.hd,a.ok.frames, .inl rfl,λb hb=>⟨eN (g b hb).2,λx c e=>(g b hb).1.2.2.2.2.1 x c (snd x c e)⟩,a.bs,dJ a.ok.Ft a.sz,λb o e hb=>?_,λb hb E=>?_,a.stack,a.A5⟩
  ·rcases(g b hb).1.2.2.2.1 with z|z;·exact a.ok.zi b o e z
   ·exact absurd (gP (b_ e) a.ok.Ft) (Nat.not_lt.mpr z)
  ·rcases List.mem_cons.mp (a.gK b E)with z|z;·exact(g b hb).1.2.1 z
   ·exact(g b hb).1.2.2.1 z
 refine⟨ok,rfl,a.bare,Un.kept keep,⟨m,C,λi x v h1 h2 h3=>?_⟩,λx c e=>?_,a.cj.fresh (bN _),λx c e=>a.fj x c (snd x c e),λp D=>?_,a.cj.kept keep,?_⟩
 ·have h1:N'[i]?=some x:=h1;have hi:¬i<own:=λz=>by unfold ic at h2;rw[EZ (by simpa using z),List.getElem?_replicate]at h2;split at h2<;>cases h2
  obtain⟨j,rfl⟩:∃j,i=own+j:=⟨i-own,by lia⟩;unfold ic at h2;rw[List.getElem?_append_right (by simp),List.length_replicate,Nat.add_sub_cancel_left,jP]at h2;cases h:fr[j]? with
   |none=>rw[h]at h2;cases h2
   |some k=>
    rw[h]at h2;have h2:(σ[k]?).join=some v:=Option.some.inj h2;have F:σ[k]?=some (some v):=by cases q:σ[k]? with|none=>rw[q]at h2;cases h2|some J=>rw[q]at h2;exact congrArg some h2
    obtain⟨K,e1,e2,e3⟩:=S.fr j k h;rw[h1]at e1;cases e1;have mem:=PySem.mem_of_lookup e3;have t:=S.free _ mem rfl;obtain⟨I,H,B⟩:=a.loc;obtain⟨u,r,look⟩:=B k x v e2 F (.inr t);rcases look with⟨q,_⟩|⟨q,c,hc,o,l,hd⟩
    ·rcases t with z|z;·have z:X.env.kindOf x=some .cell:=z;rw[z]at q;cases q
     ·have z:X.env.kindOf x=some .free:=z;rw[z]at q;cases q
    ·obtain⟨w,e'⟩:=km (env:=X.env) scope.names [] mem;have s:=snd x w e';rw[hc]at s;cases s;exact⟨u,r, .inr ⟨nI e3,c,e',o,keep _ _ l,hd⟩⟩
 ·obtain⟨v,o,l,hd⟩:=a.cell x c (snd x c e);exact⟨v,o,keep _ _ l,hd⟩
 ·obtain⟨q1,q2,q3,q4,G⟩:=a.pin p (oU _ (by simpa using D));refine⟨keep _ _ q1,q2,eN (b_ q1),λz=>?_,G⟩;rcases List.mem_cons.mp (a.gK _ z)with z|z;·exact q3 z
  ·exact q4 z
 ·show(ic own fr σ).length=N'.length;unfold ic;rw[S.len,dZ,List.length_replicate,cV]
theorem nj{X:Cx}{tg iter F:Expr}{O:List Expr}{scope:Scope}{pos:Pos}{wi:TI}{g:TG}{tt:TT}{te:TE}{N':List Str}{own:Nat}{fr:List Nat}(hc:X.calm=true)(S:nH X N' own fr scope)(hi:PI X tg iter wi)(ho:Own own g)(hg:∀A w fp,PG (d9 X N' scope A w fp) tg g)(hf:∀A w fp,A8 (d9 X N' scope A w fp) O tt)(he:∀A w fp,PE (d9 X N' scope A w fp) F te)(hs:∀x,foldedSetIterable iter X.env x=pure x:=by intro _;rfl):PE X (.ListComp F [⟨tg,iter,O,0⟩] scope pos) (VQ own fr wi g tt te):=by
 intro pins s σ H Q I h;have GU:∀x∈scope.names,x.2= .free->∃c,X.env.cells.lookup x.1=some c:=λx hx e=>I.ok.has x.1 (S.free x hx e);rw[eval_ListComp];refine wpAny_comprehension_free (use:=none) rfl hs (xf GU) S.kind S.loc ?_;refine b9 (hi pins s σ H _ I h) λv s1 h1=>b9 h1 λitv s2 h2=>?_;obtain⟨it,fp,tn,J,d,e,I2,T,XJ,f2,h2⟩:=h2;subst e;refine wpAny_newObj_type (hd:=by size_fits) (wpAny_newFunctionEnv S.oz (by intro y hy;simp at hy) (λh4 L N=>?_) S.kind);have hp0:=I2.cj.fresh (bN s2.heap.objs.size);obtain⟨W,⟨m0,w0⟩,turn⟩:=h2 _ hp0;have C:Inv X pins σ (upd d s2.heap.objs.size (.lst [])) {s2 with heap:=s2.heap.push {cls:= .type "list",dict:=none,data:= .seq ([]:List Value).toArray},toks:=s2.toks}:=I2.Sj .nil (fW _);have lt2:∀b∈fp,b<s2.heap.objs.size:=λb hb=>let⟨o,e,_⟩:=T.obj _ _ XJ b hb;b_ e;have up2:∀b o,s2.heap.get? b=some o->∀ob:Obj,(s2.heap.push ob).get? b=some o:=λb o e ob=>cf _ e;have sz3:(s2.heap.push {cls:= .type "list",dict:=none,data:= .seq ([]:List Value).toArray}).objs.size=s2.heap.objs.size+1:=Heap.size_push ..;revert L N C;generalize e3:s2.heap.push {cls:= .type "list",dict:=none,data:= .seq ([]:List Value).toArray}=h3 at sz3⊢;intro L N C;have keep:∀b o,h3.get? b=some o->h4.get? b=some o:=λb o e=>(N.2 b (eN (b_ e))).trans (cf _ e);have G:∀b∈fp,m9 X pins (upd d s2.heap.objs.size (.lst [])) b/\b<h3.objs.size:=λb hb=>by refine⟨⟨?_,(f2 b hb).2⟩,by rw[sz3];exact Nat.lt_succ_of_lt (lt2 b hb)⟩;rw[aY (eN (lt2 b hb))];exact(f2 b hb).1
 have D:=JW (t4:=s2.toks+([]:List (Str×Value)).length) S C G keep L;have V:tn 0 h4:=T.keep _ _ _ XJ λb hb o e=>keep b o (by rw[<-e3];exact up2 b o e _);have U:∀{H':Hp},(∀b∈fp,H' b=none)->∀b∈fp,m9 (d9 X N' scope {s2 with heap:=h3,toks:=s2.toks} (upd d s2.heap.objs.size (.lst [])) fp) [] H' b:=λ{H'}hn b hb=>⟨hn b hb,eN (G b hb).2,λz=>D.ok.Ct b hb z, .inl hb,(D.ok.Yg b hb).2,λp hp=>(f2 b hb).2.2.2.2.2 p (oU _ (by simpa using hp))⟩;have loop:∀sx:Shared,Inv (d9 X N' scope {s2 with heap:=h3,toks:=s2.toks} (upd d s2.heap.objs.size (.lst [])) fp) [] (ic own fr σ) (upd d s2.heap.objs.size (.lst [])) sx->tn 0 sx.heap->codeAny (model X.prog X.w) X.A (.compLoop (.ListComp F [⟨tg,iter,O,0⟩] scope pos) 0 (.ref it) (.ref s2.heap.objs.size) (GY X scope h3.objs.size)) (compPost (model X.prog X.w) X.A X.xe none (EP X pins σ Q) (.ref s2.heap.objs.size) h3.objs.size) sx:=by
  intro sx Ix tx;refine qi (λn s'=>∃i l H',Inv (d9 X N' scope {s2 with heap:=h3,toks:=s2.toks} (upd d s2.heap.objs.size (.lst [])) fp) [] (ic own fr σ) H' s'/\tn i s'.heap/\(∀b∈fp,H' b=none)/\W i n l H') ?_ m0 ⟨0,[],_,Ix,tx,λb hb=>(G b hb).1.1,w0⟩;rintro n s5⟨i,l,B,I5,SK,ZS,w5⟩;rcases turn i n l B w5 with⟨stop,qn⟩|⟨go,step⟩;·refine b9 (T.done (d9 X N' scope {s2 with heap:=h3,toks:=s2.toks} (upd d s2.heap.objs.size (.lst [])) fp) rfl rfl rfl hc i [] s5 _ B (λ_ _=>False) I5 (U ZS) SK stop) λr s6 a=>?_;obtain⟨M,m⟩:=a;subst M;obtain⟨m6,hm6,_⟩:=id m.loc;refine⟨m6,hm6,λh7 hs7=>⟨.ref s2.heap.objs.size,B,?_,rfl,qn⟩⟩;exact C.Py (s':={s6 with heap:=h7}) (ch:=fp) m.os (yA m.base (bN _) hs7) (Eb m.cj m.free hs7) m.bare λb hb=>⟨(f2 b hb).2.2.2.1,(f2 b hb).2.1,(f2 b hb).2.2.2.2.1,(f2 b hb).2.2.2.2.2⟩
  ·refine b9 (T.item (d9 X N' scope {s2 with heap:=h3,toks:=s2.toks} (upd d s2.heap.objs.size (.lst [])) fp) rfl rfl rfl hc i [] s5 _ B (λ_ _=>False) I5 (U ZS) SK go) λr s6 a=>?_;obtain⟨u,M,h6⟩:=a;subst M;refine b9 h6 λ_ s7 a=>?_;obtain⟨x,Z,I7,r7,y7,R,fr7⟩:=a;have I7':=I7.pinned (U fr7) (T.obj _ _ R);refine b9 (hg _ _ _ _ s7 _ Z x u _ I7' r7 (ho _ _ _ _ (step x Z y7))) λ_ s8 a=>?_;obtain⟨E,H8,I8,q8,l8,k8⟩:=a;have again:∀{k:Hp}{t:Shared},Inv (d9 X N' scope {s2 with heap:=h3,toks:=s2.toks} (upd d s2.heap.objs.size (.lst [])) fp) ([]++oH fp s7.heap) E k t->Inv (d9 X N' scope {s2 with heap:=h3,toks:=s2.toks} (upd d s2.heap.objs.size (.lst [])) fp) [] (ic own fr σ) k t/\tn (i+1) t.heap/\∀b∈fp,k b=none:=λ{k t}q=>by
    refine⟨q.j9.weak l8.symm λj v e=>?_,T.keep _ _ _ R λb hb o e=>(q.pin (b,o) (jR _ (jR _ (fB hb e)))).1,λb hb=>?_⟩
    ·have hj:own<=j:=by refine Nat.le_of_not_lt λz=>?_;unfold ic at e;rw[EZ (by simpa using z),List.getElem?_replicate]at e;split at e<;>cases e
     rw[k8 j hj];exact e
    ·obtain⟨o,e,_⟩:=T.obj _ _ R b hb;exact(q.pin (b,o) (jR _ (jR _ (fB hb e)))).2.1
   refine b9 (hf _ _ _ _ s8 E H8 _ I8 q8) λok t a=>?_;obtain⟨k,q,q9⟩:=a;cases ok with|false=>obtain⟨P,K,w9⟩:=q9;obtain⟨a1,a2,a3⟩:=again q;exact⟨P,K,i+1,l,k,a1,a2,a3,w9⟩|true=>refine b9 (he _ _ _ _ t E k _ q q9) λy Nj a=>?_;obtain⟨v,Y,I10,r10,Xz,Z1,P,K,w10⟩:=a;refine b9 (iA _ Nj E Y (.ref s2.heap.objs.size) [v] (.ref s2.heap.objs.size) [y] (λ_ Hn=>Hn=upd Y s2.heap.objs.size (.lst (l++[v]))) I10 rfl (.cons r10 .nil) ⟨_,l,v,rfl,rfl,Xz,Z1,rfl⟩) λ_ UA a=>?_;obtain⟨_,H11,I11,_,e11⟩:=a;subst e11;obtain⟨a1,a2,a3⟩:=again I11;exact⟨P,K,i+1,l++[v],_,a1,a2,a3,w10⟩
 exact codeAny_compStart_list (loop _ D V) (gg (T.self X.A 0 _ (λv s'=>v= .ref it/\s'=_) (λ_ _=>False) V ⟨rfl,rfl⟩) (λv s'⟨e1,e2⟩=>by subst e1;subst e2;exact loop _ D V) λ_ _ f=>f.elim)
def Nx(n i:Nat)(P:Prop):Prop:=∃a,a<n-i/\a=n-(i+1)/\i+1<=n/\P
theorem nx{n i:Nat}{P:Prop}(h:i<n)(p:P):Nx n i P:=⟨n-(i+1),by lia,rfl,h,p⟩
theorem kP{J:It}{p:Addr}{l:Hp}{g:TG}{q:TT}{o:TE}{b:L2.St}{Q:VK}(n:Nat)(Pv:Nat->List V->Hp->Prop)(r:Pv 0 [] (upd l p (.lst [])))(s:∀i a c,i<n->Pv i a c->J.go i c/\∀x d,J.yW i c x d->g x b d λj k=>q j k λok e=>if ok=true then o j e λv f=>f p=some (.lst a)/\a.length<sizeLine/\Nx n i (Pv (i+1) (a++[v]) (upd f p (.lst (a++[v]))))else Nx n i (Pv (i+1) a e))(hd:∀a c,Pv n a c->J.stop n c/\Q (.ref p) c):∃W:Nat->Nat->List V->Hp->Prop,(∃m,W 0 m [] (upd l p (.lst [])))/\∀i m a c,W i m a c->(J.stop i c/\Q (.ref p) c)\/(J.go i c/\∀x d,J.yW i c x d->g x b d λj k=>q j k λok e=>if ok=true then o j e λv f=>f p=some (.lst a)/\a.length<sizeLine/\∃h,h<m/\W (i+1) h (a++[v]) (upd f p (.lst (a++[v])))else∃h,h<m/\W (i+1) h a e):=by
 refine⟨λi m a H=>m=n-i/\i<=n/\Pv i a H,⟨n,by simp,fW _,r⟩,?_⟩;rintro i m a c⟨rfl,hi,w⟩;by_cases t:i<n;·exact .inr (s i a c t w)
 ·obtain rfl:i=n:=by lia
  exact .inl (hd a c w)
end L3
end
section
namespace L3
open PySem L2
section
variable{prog:Program}{w:World}{A:Around}{E:Value->Shared->Prop}{s:Shared}
end
structure oG(z TI TO i1 i2:Nat)(f1 f2:List Nat):Prop where
 TIz:TI≠z
 TOz:TO≠z
 TITO:TI≠TO
 TI1:TI≠i1
 TI2:TI≠i2
 TO1:TO≠i1
 TO2:TO≠i2
 i1z:i1≠z
 i2z:i2≠z
 zf1:z∉f1
 zf2:z∉f2
 Tf1:TO∉f1
 Tf2:TO∉f2
 ady:i2∉f1
 aeQ:i1∉f2
section
variable{prog:Program}{w:World}{A:Around}{E:Value->Shared->Prop}{s:Shared}
variable{z TI TO i1 i2:Addr}{f1 f2:List Addr}{n1 n2:Nat}{P1 P2:Nat->Value->Prop}{S1 S2:Nat->Heap->Prop}
theorem MR{i:Nat}{a b:Value}{Q:Value->Shared->Prop}(D1:Draws prog w A i1 f1 n1 P1 S1)(u:Draws prog w A i2 f2 n2 P2 S2)(d:oG z TI TO i1 i2 f1 f2)(l:IsZip s.heap z TI TO .none)(O:IsPair s.heap TI (.ref i1) (.ref i2))(P:IsPair s.heap TO a b)(s1:S1 i s.heap)(s2:S2 i s.heap)(U:i<n1)(V:i<n2)(R:∀x y h' tk,P1 i x->P2 i y->IsZip h' z TI TO (rawInt s.heap.objs.size)->IsPair h' TO x y->S1 (i+1) h'->S2 (i+1) h'->IsPair h' s.heap.objs.size x y->(∀c o,c≠z->c≠TO->c≠i1->c≠i2->s.heap.get? c=some o->h'.get? c=some o)->Q (.ref s.heap.objs.size) {s with heap:=h',toks:=tk}):wpAny (model prog w) A (Builtin.«zip.__next__» ⟨[.ref z],[]⟩) (λfin s'=>∃v,fin= .done (.ret v)/\Q v s') E s:=by
 have m:∀{k:Nat}{h h':Heap}{c:Addr},c∉f1->Heap.SameBut c h h'->S1 k h->S1 k h':=λ{k h h' c}hc sb st=>D1.frame _ _ _ st λq hq o e=>(sb.2 q λz=>hc (z▸hq)).trans e;have n:∀{k:Nat}{h h':Heap}{c:Addr},c∉f2->Heap.SameBut c h h'->S2 k h->S2 k h':=λ{k h h' c}hc sb st=>u.frame _ _ _ st λq hq o e=>(sb.2 q λz=>hc (z▸hq)).trans e;show wpAny (model prog w) _ (field (.ref z) 2>>=_) _ _ _;refine az (fw l rfl (x:= .bool false) rfl ?_);show wpAny (model prog w) _ (field (.ref z) 3>>=_) _ _ _;refine az (fw l rfl (x:= .ref TI) rfl ?_);refine az (wpAny_seqItems O rfl ?_);show wpAny (model prog w) _ (Builtin.SmallTypes.ownedTupleIsFree (.ref z)>>=_) _ _ _;refine az ?_;unfold Builtin.SmallTypes.ownedTupleIsFree;refine az (fw l rfl (x:= .none) rfl (bA ?_));simp only[if_true];refine az (wpAny_rule ?_);refine az (fw l rfl (x:= .ref TO) rfl ?_);refine az (wpAny_setField_rec l (by simp) λk1 F b1=>?_);replace F:IsZip k1 z TI TO .ellipsis:=F;refine az ?_;simp only[List.zipIdx_cons,List.zipIdx_nil,List.forIn_cons,List.forIn_nil];refine az (az (wpAny_onRaise ?_));show wpAny (model prog w) _ (Builtin.SmallTypes.nextOf (.ref i1)>>=_) _ _ _;refine az (D1.item i _ _ _ U (m d.zf1 b1 s1) λx k2 t2 W q2 b2=>bA ?_);have K:IsPair k2 TO a b:=b2.extBut _ _ d.TO1 (b1.extBut _ _ d.TOz P);refine az (wpAny_seqItems K rfl ?_);refine az (wpAny_updateSeq_pair K λk3 D b3=>?_);replace D:IsPair k3 TO x b:=D;refine az (wpAny_letGo (bA ?_));refine az (az (wpAny_onRaise ?_));show wpAny (model prog w) _ (Builtin.SmallTypes.nextOf (.ref i2)>>=_) _ _ _;refine az (u.item i _ _ _ V (n d.Tf2 b3 (n d.aeQ b2 (n d.zf2 b1 s2))) λy S t4 X q4 g=>bA ?_);have L:IsPair S TO x b:=g.extBut _ _ d.TO2 D;refine az (wpAny_seqItems L rfl ?_);refine az (wpAny_updateSeq_pair L λf r j=>?_);replace r:IsPair f TO x y:=r;refine az (wpAny_letGo (bA (bA ?_)));refine az (wpAny_seqItems r rfl ?_);refine az (wpAny_newTuple ?_);have sz:f.objs.size=s.heap.objs.size:=by rw[j.1,g.1,b3.1,b2.1,b1.1]
 have N:IsZip f z TI TO .ellipsis:=j.extBut _ _ d.TOz.symm (g.extBut _ _ d.i2z.symm (b3.extBut _ _ d.TOz.symm (b2.extBut _ _ d.i1z.symm F)));have kp:∀c o,c≠z->c≠TO->c≠i1->c≠i2->s.heap.get? c=some o->f.get? c=some o:=λc o c1 c2 B C e=>j.extBut _ _ c2 (g.extBut _ _ C (b3.extBut _ _ c2 (b2.extBut _ _ B (b1.extBut _ _ c1 e))));have Y:S1 (i+1) f:=m d.Tf1 j (m d.ady g (m d.Tf1 b3 q2));have Z:S2 (i+1) f:=n d.Tf2 j q4;have J:z<f.objs.size:=b_ N;show wpAny (model prog w) _ (Builtin.SmallTypes.ownedTupleHandOut (.ref z) (.ref f.objs.size)>>=_) _ _ _;refine az ?_;unfold Builtin.SmallTypes.ownedTupleHandOut;have z6:IsZip (f.push {cls:= .type "tuple",data:= .seq #[x,y]}) z TI TO .ellipsis:=cf _ N;refine az (wpAny_setField_rec z6 (by simp) λT G H=>?_);replace G:IsZip T z TI TO (rawInt f.objs.size):=G;refine wpAny_setField_rec G (by simp) λp t I=>?_;replace t:IsZip p z TI TO (rawInt f.objs.size):=t;have up:∀c o,c≠z->f.get? c=some o->p.get? c=some o:=λc o c1 e=>I.extBut _ _ c1 (H.extBut _ _ c1 (cf _ e));have M:IsPair p f.objs.size x y:=I.extBut _ _ (Nat.ne_of_gt J) (H.extBut _ _ (Nat.ne_of_gt J) (gj _ rfl));rw[sz]at t M;refine bA ⟨_,rfl,?_⟩;show Q (.ref f.objs.size) _;rw[sz];exact R x y p _ W X t (up _ _ d.TOz r) (D1.frame _ _ _ Y λq hq o e=>up q o (λz=>d.zf1 (z▸hq)) e) (u.frame _ _ _ Z λq hq o e=>up q o (λz=>d.zf2 (z▸hq)) e) M λc o c1 c2 B C e=>up c o c1 (kp c o c1 c2 B C e)
theorem LS{a b:Value}{Q:Fin->Shared->Prop}(D1:Draws prog w A i1 f1 n1 P1 S1)(h:oG z TI TO i1 i2 f1 f2)(d:IsZip s.heap z TI TO .none)(l:IsPair s.heap TI (.ref i1) (.ref i2))(r:IsPair s.heap TO a b)(s1:S1 n1 s.heap)(m:∀h' e,(∀c o,c≠z->c≠TO->c≠i1->c≠i2->s.heap.get? c=some o->h'.get? c=some o)->(∃o,h'.get? e=some o/\o.cls= .type "StopIteration")->E (.ref e) {s with heap:=h'}):wpAny (model prog w) A (Builtin.«zip.__next__» ⟨[.ref z],[]⟩) Q E s:=by
 show wpAny (model prog w) _ (field (.ref z) 2>>=_) _ _ _;refine az (fw d rfl (x:= .bool false) rfl ?_);show wpAny (model prog w) _ (field (.ref z) 3>>=_) _ _ _;refine az (fw d rfl (x:= .ref TI) rfl ?_);refine az (wpAny_seqItems l rfl ?_);show wpAny (model prog w) _ (Builtin.SmallTypes.ownedTupleIsFree (.ref z)>>=_) _ _ _;refine az ?_;unfold Builtin.SmallTypes.ownedTupleIsFree;refine az (fw d rfl (x:= .none) rfl (bA ?_));simp only[if_true];refine az (wpAny_rule ?_);refine az (fw d rfl (x:= .ref TO) rfl ?_);refine az (wpAny_setField_rec d (by simp) λk1 g b1=>?_);replace g:IsZip k1 z TI TO .ellipsis:=g;refine az ?_;simp only[List.zipIdx_cons,List.zipIdx_nil,List.forIn_cons,List.forIn_nil];refine az (az (wpAny_onRaise ?_));show wpAny (model prog w) _ (Builtin.SmallTypes.nextOf (.ref i1)>>=_) _ _ _;refine az (D1.done _ _ _ (D1.frame _ _ _ s1 λq hq o e=>(b1.2 q λy=>h.zf1 (y▸hq)).trans e) λk2 e b2 n=>?_);obtain⟨oe,f,i⟩:=n;have j:IsZip k2 z TI TO .ellipsis:=b2 _ _ h.i1z.symm g;have p:e≠z:=λq=>by subst q;rw[j]at f;cases f;simp at i
 refine wpAny_setField_rec j (by simp) λk3 _ b3=>m k3 e (λc o c1 _ k _ q=>b3.extBut _ _ c1 (b2 _ _ k (b1.extBut _ _ c1 q))) ⟨oe,b3.extBut _ _ p f,i⟩
theorem Mv{i:Nat}{a b:Value}{Q:Option Value->Shared->Prop}(D1:Draws prog w A.in1 i1 f1 n1 P1 S1)(e:Draws prog w A.in1 i2 f2 n2 P2 S2)(f:oG z TI TO i1 i2 f1 f2)(d:IsZip s.heap z TI TO .none)(g:IsPair s.heap TI (.ref i1) (.ref i2))(h:IsPair s.heap TO a b)(s1:S1 i s.heap)(s2:S2 i s.heap)(k:i<n1)(l:i<n2)(j:∀x y h' tk,P1 i x->P2 i y->IsZip h' z TI TO (rawInt s.heap.objs.size)->IsPair h' TO x y->S1 (i+1) h'->S2 (i+1) h'->IsPair h' s.heap.objs.size x y->(∀c o,c≠z->c≠TO->c≠i1->c≠i2->s.heap.get? c=some o->h'.get? c=some o)->Q (some (.ref s.heap.objs.size)) {s with heap:=h',toks:=tk}):wpAny (model prog w) A (pyNext (.ref z)) Q E s:=by have ty:s.TypeIs (.ref z) "zip":=⟨_,d,rfl⟩;unfold pyNext;refine az (wpAny_attempt (wpAny_callSpecial?_slot (name:=Str.ofString "__next__") ty F.slot_zip_next (qU F.slot_zip_next ty F.entry_zip_next ?_ (F.args_zip_next_1 _))));exact MR D1 e f d g h s1 s2 k l λx y h' tk a1 a2 a3 a4 a5 a6 a7 a8=>bA (j x y h' tk a1 a2 a3 a4 a5 a6 a7 a8)
theorem M8{a b:Value}{Q:Option Value->Shared->Prop}(D1:Draws prog w A.in1 i1 f1 n1 P1 S1)(f:oG z TI TO i1 i2 f1 f2)(d:IsZip s.heap z TI TO .none)(g:IsPair s.heap TI (.ref i1) (.ref i2))(h:IsPair s.heap TO a b)(s1:S1 n1 s.heap)(i:∀h',(∀c o,c≠z->c≠TO->c≠i1->c≠i2->s.heap.get? c=some o->h'.get? c=some o)->Q none {s with heap:=h'}):wpAny (model prog w) A (pyNext (.ref z)) Q E s:=by have ty:s.TypeIs (.ref z) "zip":=⟨_,d,rfl⟩;unfold pyNext;refine az (wpAny_attempt (wpAny_callSpecial?_slot (name:=Str.ofString "__next__") ty F.slot_zip_next (qU F.slot_zip_next ty F.entry_zip_next (LS D1 f d g h s1 λh' e k j=>?_) (F.args_zip_next_1 _))));obtain⟨o,l,hc⟩:=j;refine az (wpAny_isInstance (T:="StopIteration") (b:=true) ⟨o,l,hc⟩ isSubtype_stop (bA (i _ k)))
end
section
variable{prog:Program}{w:World}{A:Around}{E:Value->Shared->Prop}{s:Shared}
end
end L3
end
section
namespace L3
open PySem PySem.Spec PyProof.Rows L2
section
variable{X:Cx}{pins:List (Addr×Obj)}{σ:L2.St}{H:Hp}{s:Shared}{h':Heap}
theorem L7{t':Nat}{ch:List Addr}{T:Addr}{o:HO}(I:Inv X pins σ H s)(k:∀b ob,b∉ch->s.heap.get? b=some ob->h'.get? b=some ob)(hf:∀b∈ch,m9 X pins H b)(a:s.heap.objs.size<=T)(new:cK X.prog X.w (upd H T o) h' T o):Inv X pins σ (upd H T o) {s with heap:=h',toks:=t'}:=by
 have hn:H T=none:=I.cj.fresh a;have d:∀b u,H b=some u->b∉ch:=λb u e z=>by rw[(hf b z).1]at e;cases e
 refine I.step (g':=s.gens) (d':=s.drawn) (ch:=ch) (λb hb=>⟨(hf b hb).2.2.2.1,(hf b hb).2.1,(hf b hb).2.2.2.2.1,(hf b hb).2.2.2.2.2⟩) (λb ob _ _ hc e _=>k b ob hc e) (λb ob _ _ hc e _=>⟨ob.slots,k b ob hc e⟩) (λb ob _ e n=>by rw[aY (eN (gP (b_ e) a))];exact n) (λb ob hc e=>⟨ob,k b ob hc e⟩) (λb xs e=>by rw[aY (aZ e hn)];exact e) (λb ob u e=>by rw[aY (aZ e hn)];exact e) (λb ps e=>(by rw[aY (aZ e hn),e])) (λm hm=>?_) (λb u e=>?_) I.bare;·obtain⟨ob,es,ep,f,r⟩:=hm;exact⟨ob,es,ep,k _ ob (λz=>(hf _ z).2.1 rfl) f,r⟩
 ·by_cases hb:b=T;·subst hb;rw[aj]at e;cases e;exact new
  ·rw[aY hb]at e;refine(I.cj b u e).xm (λc v hc q=>k c v ?_ q) (λc q=>by rw[aY (aZ q hn)];exact q) λc xs q=>by rw[aY (aZ q hn)];exact q
   rcases hc with z|z;·rw[z];exact d b u e
   ·exact d c _ z
theorem SX{t':Nat}{ch:List Addr}(I:Inv X pins σ H s)(k:∀b ob,b∉ch->s.heap.get? b=some ob->h'.get? b=some ob)(hf:∀b∈ch,m9 X pins H b):Inv X pins σ H {s with heap:=h',toks:=t'}:=by
 have a:∀b u,H b=some u->b∉ch:=λb u e z=>by rw[(hf b z).1]at e;cases e
 refine I.step (g':=s.gens) (d':=s.drawn) (ch:=ch) (λb hb=>⟨(hf b hb).2.2.2.1,(hf b hb).2.1,(hf b hb).2.2.2.2.1,(hf b hb).2.2.2.2.2⟩) (λb ob _ _ hc e _=>k b ob hc e) (λb ob _ _ hc e _=>⟨ob.slots,k b ob hc e⟩) (λb ob _ e n=>n) (λb ob hc e=>⟨ob,k b ob hc e⟩) (λb xs e=>e) (λb ob u e=>e) (λb ps e=>(by rw[e])) (λm hm=>?_) (λb u e=>?_) I.bare;·obtain⟨ob,es,ep,d,r⟩:=hm;exact⟨ob,es,ep,k _ ob (λz=>(hf _ z).2.1 rfl) d,r⟩
 ·refine(I.cj b u e).xm (λc v hc q=>k c v ?_ q) (λ_ q=>q) λ_ _ q=>q;rcases hc with z|z;·rw[z];exact a b u e
  ·exact a c _ z
end
structure afm(a b z TI TO i1 i2:Addr)(i:Nat)(h:Heap):Prop where
 z:IsZip h z TI TO .none
 TI:IsPair h TI (.ref i1) (.ref i2)
 TO:∃u v,IsPair h TO u v
 i1:h.IsTupleIter i1 a i
 i2:h.IsTupleIter i2 b i
section
variable{X:Cx}
theorem jW:iL X (.builtin "isinstance") (λxs H Q=>∃x t n b,xs=[x, .ty n]/\lP X.K H x t/\PySem.W.kitOne X.K t (.type n)=some b/\Q (.bl b) H):=by intro pins s σ H xs us Q I r h;obtain⟨x,t,n,b,rfl,ty,e,q⟩:=h;obtain⟨u,v,rfl,a,c⟩:=r.two;obtain rfl:v=Value.type n:=c;exact LB I a ty e λtk=>⟨.bl b,H,I.tok tk,rfl,q⟩
end
structure mf(K:PySem.W.Frag)(a:Addr)(D:List (Str×V)):Prop where
 sys:(a==sysModules)=false
 ex:∃o es ep,K.lookup a=some o/\o.ExactDict/\o.data= .dict es ep/\KTD.Rows RelV es.toList D
section
variable{X:Cx}{pins:List (Addr×Obj)}{σ:L2.St}{H:Hp}{s:Shared}{a:Addr}{D:List (Str×V)}{k:Str}{tk:Tok}{A:Around}{E:Value->Shared->Prop}
theorem mf.typeIs(T:mf X.K a D)(I:Inv X pins σ H s):s.TypeIs (.ref a) "dict":=let⟨o,_,_,e,x,_⟩:=T.ex;⟨o,I.kK a o e,x.1⟩
theorem Bx{Q:Option Value->Shared->Prop}(T:mf X.K a D)(I:Inv X pins σ H s)(h1:∀v u,KTD.datumAt k D=some v->RelV v u->Q (some u) {s with toks:=s.toks+1})(h2:KTD.datumAt k D=none->Q none {s with toks:=s.toks+1}):wpAny (model X.prog X.w) A (dictGet a (.str k tk)) Q E s:=by
 obtain⟨_,o,es,ep,n,_,g,f⟩:=T;have h:=I.kK a o n;unfold dictGet;try with_reducible refine kf ?_
 have j:(es.all λe=>isExactStrKey e.key)=true:=by obtain⟨l⟩:=es;simpa using f.exact
 refine az (wpAny_pyHash_str (az (KTD.kt_dictFind_strs (s:={s with toks:=s.toks+1}) h g j ?_)));have b:Q (findBy (λk v=>v.isStr k) es k) {s with toks:=s.toks+1}:=by
  have m:findBy (λk v=>v.isStr k) es k=(es.toList.find? λe=>e.key.isStr k).map (·.val):=by obtain⟨l⟩:=es;simp[findBy]
  rw[m];cases c:KTD.datumAt k D with|some d=>obtain⟨v,q,p⟩:=f.find_some c;rw[q];exact h1 d v c p|none=>rw[f.find_none c];exact h2 c
 rw[findBy_of_findIdx?]at b;cases hi:es.findIdx? λe=>e.key.isStr k with|none=>rw[hi]at b;exact bA b|some i=>rw[hi]at b;exact az (wpAny_dictEntries (s:={s with toks:=s.toks+1}) h g (bA b))
theorem OD{Q:Value->Shared->Prop}{v:V}(T:mf X.K a D)(I:Inv X pins σ H s)(hd:KTD.datumAt k D=some v)(h:∀u,RelV v u->Q u {s with toks:=s.toks+1}):wpAny (model X.prog X.w) A (getItem (.ref a) (.str k tk)) Q E s:=by
 have ty:=T.typeIs I;unfold getItem;try with_reducible refine kf ?_
 refine az (wpAny_sequenceKey ty (by decide) ?_);refine az (wpAny_callSpecial?_slot (name:=Str.ofString "__getitem__") ty slot_dict_getitem (qU slot_dict_getitem ty entry_dict_getitem ?_ (args_dict_getitem _ _)));show wpAny (model X.prog X.w) _ (dictGet a (.str k tk)>>=_) _ _ s;refine az (Bx T I (λb u e r=>?_) λhn=>?_);·rw[hd]at e;cases e;exact bA ⟨u,rfl,bA (h u r)⟩
 ·rw[hd]at hn;cases hn
end
section
variable{X:Cx}
noncomputable def aeT(K:PySem.W.Frag):R2:=λx y H Q=>∃a D k v,x= .ref a/\y= .str k/\mf K a D/\KTD.datumAt k D=some v/\Q v H
theorem aae{o i:Expr}{m:Pos}{td ty:TE}(j:PE X o td)(hi:PE X i ty)(l:Xk i):PE X (.Subscript o i m) (C1 (aeT X.K) td ty):=by intro pins s σ H Q I h;refine KI PySem.F.slot_dict_getitem.lookup l (b9 (j pins s σ H _ I h) λu s1⟨x,c,f,n,q1⟩=>b9 (hi pins s1 σ c _ f q1) λw s2 q=>?_);obtain⟨y,d,b,p,a,D,k,v,ex,g,T,e,q2⟩:=q;subst ex g;cases n;obtain⟨t,rfl⟩:=p;exact⟨T.typeIs b,OD T b e λu r=>⟨v,d,b.tok _,r,q2⟩⟩
end
end L3
end
section
namespace KM
open PySem
inductive D where|a_|bl(b:Bool)|int(i:Int)|str(x:Str)|tup(ds:List D)deriving Inhabited
mutual noncomputable def aG:D->Nat| .tup ds=>1+aO ds| .a_=>0| .bl _=>0| .int _=>0| .str _=>0 noncomputable def aO:List D->Nat|[]=>0|d::r=>aG d+aO r end
mutual noncomputable def depth:D->Nat| .tup ds=>1+aN ds| .a_=>0| .bl _=>0| .int _=>0| .str _=>0 noncomputable def aN:List D->Nat|[]=>0|d::r=>max (depth d) (aN r)end
noncomputable def isTup:D->Bool| .tup _=>true|_=>false
noncomputable def tk:D->List D| .tup ds=>ds.filter isTup|_=>[]
noncomputable def lv:Nat->List D->List D|0,l=>l|n+1,l=>lv n (l.flatMap tk)
theorem lj:∀l:List D,aO (l.filter isTup)=aO l|[]=>rfl|d::r=>by have a:=lj r;cases d<;>simp[isTup,List.filter_cons,aO,aG,a]
theorem lx:∀l:List D,aN (l.filter isTup)=aN l|[]=>rfl|d::r=>by have a:=lx r;cases d<;>simp[isTup,List.filter_cons,aN,depth,a]
theorem xH:∀l r:List D,aO (l++r)=aO l+aO r|[],r=>by simp[aO]|d::l,r=>by simp[aO,xH l r];lia
theorem zd:∀l r:List D,aN (l++r)=max (aN l) (aN r)|[],r=>by simp[aN]|d::l,r=>by simp only[List.cons_append,aN,zd l r];exact(Nat.max_assoc _ _ _).symm
theorem NT:∀d:D,isTup d=true->aG d=1+aO (tk d)| .tup ds,_=>by simp[aG,tk,lj]
theorem DG:∀d:D,isTup d=true->depth d=1+aN (tk d)| .tup ds,_=>by simp[depth,tk,lx]
theorem Ta(d:D):∀x∈tk d,isTup x=true:=by cases d<;>simp[tk]
theorem xW:∀l:List D,(∀x∈l,isTup x=true)->aO l=l.length+aO (l.flatMap tk)|[],_=>rfl|d::r,h=>by have h1:=xW r λx a=>h x (eA _ a);have h2:=NT d (h d eD);simp only[List.flatMap_cons,xH,aO,bS];lia
theorem lO:∀l:List D,(∀x∈l,isTup x=true)->l≠[]->aN l=1+aN (l.flatMap tk)|[],_,h=>(h rfl).elim|[d],h,_=>by have h2:=DG d (h d eD);simp only[List.flatMap_cons,List.flatMap_nil,lV,aN];lia|d::e::r,h,_=>by have h1:=lO (e::r) (λx a=>h x (eA _ a)) (by simp);have h2:=DG d (h d eD);rw[List.flatMap_cons,zd];have h3:aN (d::e::r)=max (depth d) (aN (e::r)):=rfl;lia
theorem oJ(l:List D):∀x∈l.flatMap tk,isTup x=true:=by intro x a;obtain⟨d,_,h⟩:=List.mem_flatMap.mp a;exact Ta d x h
theorem OF:∀n,lv n []=[]|0=>rfl|n+1=>by rw[lv,List.flatMap_nil];exact OF n
theorem tL:∀n l,lv (n+1) l=(lv n l).flatMap tk|0,l=>rfl|n+1,l=>by rw[lv,tL n,<-lv]
theorem Iu:∀n l,(∀x∈l,isTup x=true)->∀x∈lv n l,isTup x=true|0,_,h=>h|n+1,l,_=>Iu n _ (oJ l)
noncomputable def gQ:Nat->List D->Nat|0,_=>0|n+1,l=>gQ n l+(lv n l).length
theorem yw:∀n l,gQ (n+1) l=l.length+gQ n (l.flatMap tk)|0,l=>by simp[gQ,lv]|n+1,l=>by have :=yw n l;simp only[gQ]at this⊢;rw[show lv (n+1) l=lv n (l.flatMap tk)from rfl];lia
theorem me:∀n l,(∀x∈l,isTup x=true)->aO l=gQ n l+aO (lv n l)|0,l,_=>by simp[gQ,lv]|n+1,l,h=>by have h1:=xW l h;have h2:=me n (l.flatMap tk) (oJ l);rw[yw,show lv (n+1) l=lv n (l.flatMap tk)from rfl];lia
theorem yd:∀n l,(∀x∈l,isTup x=true)->(lv n l=[]↔aN l<=n)
 |0,l,h=>by
  cases l with
   |nil=>simp[lv,aN]
   |cons d r=>
    have :=lO (d::r) h (by simp);simp only[lv];constructor;·intro q;cases q
    ·intro q;lia
 |n+1,l,h=>by cases l with|nil=>simp[OF,aN]|cons d r=>have h1:=lO (d::r) h (by simp);have h2:=yd n ((d::r).flatMap tk) (oJ _);rw[show lv (n+1) (d::r)=lv n ((d::r).flatMap tk)from rfl,h2];lia
theorem ym(n:Nat)(l:List D)(h:∀x∈l,isTup x=true):gQ n l<=aO l:=by have :=me n l h;lia
theorem MO(l:List D)(h:∀x∈l,isTup x=true):(gQ 40 l<=600/\lv 40 l=[])↔(aO l<=600/\aN l<=40):=by
 rw[yd 40 l h];have e:=me 40 l h;constructor;·rintro⟨h1,h2⟩;rw[(yd 40 l h).mpr h2]at e;simp only[aO]at e;exact⟨by lia,h2⟩
 ·rintro⟨h1,h2⟩;exact⟨by lia,h2⟩
end KM
end
section
namespace L3
open PySem PySem.Spec PyProof.Rows L2 KM
mutual/--v stands for d on the heap H -/noncomputable def Rep(H:Hp):D->V->Prop| .a_,v=>v= .a_| .bl b,v=>v= .bl b| .int i,v=>v= .int i| .str x,v=>v= .str x/\x.length<=1000| .tup ds,v=>∃a vs,v= .ref a/\H a=some (.tup vs)/\bg H ds vs noncomputable def bg(H:Hp):List D->List V->Prop|[],vs=>vs=[]|d::ds,vs=>∃v r,vs=v::r/\Rep H d v/\bg H ds r end
mutual theorem Rep.mono{H H':Hp}(h:aQ H H'):∀{d:D}{v:V},Rep H d v->Rep H' d v| .a_,_,r=>r| .bl _,_,r=>r| .int _,_,r=>r| .str _,_,r=>r| .tup _,_,⟨a,vs,e,q,r⟩=>⟨a,vs,e,h _ _ q,bg.mono h r⟩theorem bg.mono{H H':Hp}(h:aQ H H'):∀{ds:List D}{vs:List V},bg H ds vs->bg H' ds vs|[],_,r=>r|_::_,_,⟨v,r,e,q,t⟩=>⟨v,r,e,Rep.mono h q,bg.mono h t⟩end
theorem bg.length{H:Hp}:∀{ds:List D}{vs:List V},bg H ds vs->vs.length=ds.length|[],_,r=>by have r:_=[]:=r;rw[r];rfl|_::_,_,⟨v,r,e,q,t⟩=>by rw[e,bS,bS,bg.length t]
theorem bg.get{H:Hp}:∀{ds:List D}{vs:List V}{i:Nat}{d:D},bg H ds vs->ds[i]?=some d->∃v,vs[i]?=some v/\Rep H d v|[],_,_,_,_,e=>by simp at e|d::_,_,0,_,⟨v,r,e,q,t⟩,h=>by simp at h;subst h;exact⟨v,by rw[e];rfl,q⟩|_::ds,_,i+1,d,⟨v,r,e,q,t⟩,h=>by obtain⟨u,h1,h2⟩:=bg.get (i:=i) t (by simpa using h);exact⟨u,by rw[e];simpa using h1,h2⟩
theorem bg.get'{H:Hp}{ds:List D}{vs:List V}{i:Nat}{v:V}(r:bg H ds vs)(e:vs[i]?=some v):∃d,ds[i]?=some d/\Rep H d v:=by have hi:i<vs.length:=(List.getElem?_eq_some_iff.mp e).1;rw[r.length]at hi;obtain⟨u,h1,h2⟩:=r.get (d:=ds[i]) (i:=i) (by simp[hi]);rw[e]at h1;cases h1;exact⟨ds[i],by simp[hi],h2⟩
theorem bg.append{H:Hp}:∀{ds es:List D}{vs us:List V},bg H ds vs->bg H es us->bg H (ds++es) (vs++us)|[],_,_,_,r,q=>by have r:_=[]:=r;subst r;exact q|_::_,_,_,_,⟨v,r,e,p,t⟩,q=>by subst e;exact⟨v,r++_,rfl,p,bg.append t q⟩
theorem bg.one{H:Hp}{d:D}{v:V}(r:Rep H d v):bg H [d] [v]:=⟨v,[],rfl,r,rfl⟩
noncomputable def tyD:D->String| .a_=>"NoneType"| .bl _=>"bool"| .int _=>"int"| .str _=>"str"| .tup _=>"tuple"
theorem Rep.ty{K:PySem.W.Frag}{H:Hp}:∀{d:D}{v:V},Rep H d v->lP K H v (.type (tyD d))| .a_,_,r=>by cases(show _=V.a_ from r);exact .a_| .bl b,_,r=>by cases(show _=V.bl b from r);exact .bl b| .int i,_,r=>by cases(show _=V.int i from r);exact .int i| .str x,_,r=>by cases(show _=V.str x from r.1);exact .str x| .tup _,_,⟨a,vs,e,q,_⟩=>by cases e;exact .tup q
noncomputable def ay:D->Bool| .str _=>true|_=>false
noncomputable def PZ:D->Bool| .bl _=>true|_=>false
noncomputable def N8:D->Bool| .bl _=>true| .int _=>true|_=>false
theorem UD(K:PySem.W.Frag)(d:D):PySem.W.kitOne K (.type (tyD d)) (.type "tuple")=some (isTup d):=by cases d<;>rfl
theorem Zp(K:PySem.W.Frag)(d:D):PySem.W.kitOne K (.type (tyD d)) (.type "bool")=some (PZ d):=by cases d<;>rfl
theorem UE(K:PySem.W.Frag)(d:D):PySem.W.kitOne K (.type (tyD d)) (.type "int")=some (N8 d):=by cases d<;>rfl
theorem ao{H:Hp}{p:Addr}(h:H p=none)(o:HO):aQ H (upd H p o):=λb u q=>by rw[aY (aZ q h)];exact q
end L3
end
section
namespace L3
open PySem PySem.Spec PyProof.Rows L2
noncomputable def afd(e:TE)(f th ts:TO):TE:=λσ H Q=>e σ H λx a=>f σ a λ_ b=>th σ b λ_ c=>ts σ c λst d=>∃z,x= .str z/\z.length<=sizeLine/\st≠some 0/\∀y:Str,y.length<=z.length->Q (.str y) d
theorem part_of{u:Value}{o:Option Int}(p:IsPart u o):∃q:Option (Int×Tok),u=partValue q/\q.map (·.1)=o:=by cases p with|none=>exact⟨none,rfl,rfl⟩|int i t=>exact⟨some (i,t),rfl,rfl⟩
theorem xr{X:Cx}{e:Expr}{lo hi st:Option Expr}{j P:Pos}{r:TE}{w th ts:TO}(M:PE X e r)(hl:PO X lo w)(N:PO X hi th)(ht:PO X st ts)(hb:∀o i,∃ops,subscripted (.Slice lo hi st j) false o i=operate ops (getItem o i):=by intro o i;exact⟨_,rfl⟩):PE X (.Subscript e (.Slice lo hi st j) P) (afd r w th ts):=by
 intro pins s σ H Q I h;refine Subscript_ (b9 (M pins s σ H _ I h) λv s1 m=>?_);obtain⟨x,A,D,S,q1⟩:=m;refine wpAny_Slice (b9 (hl pins s1 σ A _ D q1) λY s2⟨l,B,E,pl,q2⟩=>b9 (N pins s2 σ B _ E q2) λvu U⟨u,C,F,R,q3⟩=>b9 (ht pins U σ C _ F q3) λZ a m=>?_);obtain⟨t,n,G,pt,z,e1,O,L,q⟩:=m;subst e1;obtain⟨tk,rfl⟩:=S;obtain⟨d,rfl,V⟩:=part_of pl;obtain⟨f,rfl,W⟩:=part_of R;obtain⟨c,rfl,K⟩:=part_of pt;have J:Inv X pins σ n {a with heap:=a.heap.push {cls:= .type "slice",data:= .fields #[partValue d,partValue f,partValue c]}}:=G.kept (t':=a.toks) λb ob q=>cf _ q;have p:((c.map (·.1)).getD 1==0)=false:=by rw[K];cases t with|none=>rfl|some i=>simpa usingλz=>L (by rw[z])
 show wpAny (model X.prog X.w) X.A (subscriptTail e (.Slice lo hi st j) (.str z tk) (.ref a.heap.objs.size)) (EP X pins σ Q) X.xe _;obtain⟨ops,hb⟩:=hb (.str z tk) (.ref a.heap.objs.size);refine tail_any (ops:=ops) (T:="str") (typeIs_str _ _ _) PySem.F.slot_str_getitem.lookup (wpAny_getItem_str_slice (l:=d) (u:=f) (st:=c) ⟨_,gj _ rfl,rfl,rfl⟩ p ?_) hb;have fin:∀y:Str,y.length<=z.length->∀t' k,EP X pins σ Q (.str y t') {a with heap:=a.heap.push {cls:= .type "slice",data:= .fields #[partValue d,partValue f,partValue c]},toks:=k}:=λy g t' k=>⟨.str y,n,J.tok k,⟨t',rfl⟩,q y g⟩;unfold sliceMade;split;·exact fin z (bN _) _ _
 ·have g:(Str.mk ((slicePicked z d f c).filterMap (z.cps[·]?)).toArray).length<=z.length:=by show(List.filterMap _ (slicePicked z d f c)).toArray.size<=z.length;rw[c8];refine dJ (List.length_filterMap_le _ _) ?_;exact sliceIndicesBy_le _ _ _ (by simpa using p) z.length
  exact⟨dJ g O,fin _ g _ _⟩
noncomputable def adx(t u:TS):TS:=λD σ H=>∃M:L2.St->Hp->Prop,t {D with nx:=M} σ H/\∀a H',M a H'->u D a H'
theorem uh{X:Cx}{st:Stmt}{rest:List Stmt}{t u:TS}(h1:PS X st t)(h2:iO X rest u):iO X (st::rest) (adx t u):=by intro pins s σ H D I h;obtain⟨M,h,c⟩:=h;refine wpAny_execs_cons (b9 (h1 pins s σ H {D with nx:=M} I h) λf s1 q=>?_);cases f with|next=>obtain⟨a,H',b,q⟩:=q;exact h2 pins s1 a H' D b (c a H' q)|ret v=>exact q|brk=>exact q|cont=>exact q
theorem iw{J:It}{g:TG}{tb:TS}{D:Ends}{σ:L2.St}{H:Hp}(n:Nat)(Pv:Nat->L2.St->Hp->Prop)(j:Pv 0 σ H)(k:∀i σ H,i<n->Pv i σ H->J.go i H/\∀x H',J.yW i H x H'->g x σ H' λc a=>tb {D with nx:=Pv (i+1),ct:=Pv (i+1),bk:=D.nx} c a)(hd:∀σ H,Pv n σ H->J.stop n H/\D.nx σ H):∃W:Nat->Nat->L2.St->Hp->Prop,(∃m,W 0 m σ H)/\∀i m σ H,W i m σ H->(J.stop i H/\D.nx σ H)\/(J.go i H/\∃N:L2.St->Hp->Prop,(∀b H',N b H'->∃e,e<m/\W (i+1) e b H')/\∀x H',J.yW i H x H'->g x σ H' λc a=>tb {D with nx:=N,ct:=N,bk:=D.nx} c a):=by
 refine⟨λi m σ H=>m=n-i/\i<=n/\Pv i σ H,⟨n,by simp,fW _,j⟩,?_⟩;rintro i m σ H⟨rfl,hi,p⟩;by_cases d:i<n;·obtain⟨f,h⟩:=k i σ H d p;exact .inr ⟨f,Pv (i+1),λb H' l=>⟨n-(i+1),by lia,rfl,d,l⟩,h⟩
 ·obtain rfl:i=n:=by lia
  exact .inl (hd σ H p)
def bD(p:Addr)(H H':Hp):Prop:=∀b o,b≠p->H b=some o->H' b=some o
theorem bD.trans{p:Addr}{H d e:Hp}(a:bD p H d)(b:bD p d e):bD p H e:=λc o n h=>b c o n (a c o n h)
theorem _root_.L2.aQ.x{p:Addr}{H H':Hp}(a:aQ H H'):bD p H H':=λc o _ h=>a c o h
theorem bD.upd{p:Addr}{H:Hp}(o:HO):bD p H (upd H p o):=λb u n h=>by rw[aY n];exact h
mutual theorem Rep.fJ{p:Addr}{H H':Hp}(h:bD p H H')(hp:∀vs,H p≠some (.tup vs)):∀{d:KM.D}{v:V},Rep H d v->Rep H' d v| .a_,_,r=>r| .bl _,_,r=>r| .int _,_,r=>r| .str _,_,r=>r| .tup _,_,⟨a,vs,e,q,r⟩=>⟨a,vs,e,h _ _ (λz=>hp vs (by rw[<-z];exact q)) q,bg.fJ h hp r⟩theorem bg.fJ{p:Addr}{H H':Hp}(h:bD p H H')(hp:∀vs,H p≠some (.tup vs)):∀{ds:List KM.D}{vs:List V},bg H ds vs->bg H' ds vs|[],_,r=>r|_::_,_,⟨v,r,e,q,t⟩=>⟨v,r,e,Rep.fJ h hp q,bg.fJ h hp t⟩end
section
variable{prog:Program}{w:World}{A:Around}{E:Value->Shared->Prop}{s:Shared}{d:Addr}{o:Obj}{es:Array DictEntry}{ep:Nat}{hsh:Int}
end
section
variable{X:Cx}{pins:List (Addr×Obj)}{σ:L2.St}{H:Hp}{s:Shared}{a:Addr}{D:List (Str×V)}{A:Around}{E:Value->Shared->Prop}
end
end L3
end
section
namespace L3
open PySem L2
section
variable{prog:Program}{w:World}{A:Around}{E:Value->Shared->Prop}{s:Shared}
theorem Z_{it t:Addr}{i:Nat}{d:Array Value}{x:Value}{Q:Value->Shared->Prop}(c:s.heap.IsListIter it t i)(gt:s.heap.IsList t d)(h:d[i]?=some x)(j:∀h',h'.IsListIter it t (i+1)->Heap.SameBut it s.heap h'->Q x {s with heap:=h'}):wpAny (model prog w) A (Builtin.SmallTypes.nextOf (.ref it)) Q E s:=by obtain⟨l,b,e,a⟩:=id c;obtain⟨m,g,_,k,f⟩:=gt;unfold Builtin.SmallTypes.nextOf;refine az (wpAny_callSpecial?_slot (name:=Str.ofString "__next__") c.typeIs slot_listiter_next (qU slot_listiter_next c.typeIs entry_listiter_next ?_ (args_listiter_next _)));show wpAny (model prog w) _ (field (.ref it) 0>>=_) _ _ s;refine az (fw b a (x:= .ref t) rfl ?_);show wpAny (model prog w) _ (if(Value.ref t==Value.none)=true then _ else _) _ _ s;rw[if_neg (show¬(Value.ref t==Value.none)=true from fg)];show wpAny (model prog w) _ (field (.ref it) 1>>=_) _ _ s;refine az (fw b a (x:= .int i 0) rfl ?_);show wpAny (model prog w) _ (seqItems? (.ref t)>>=_) _ _ s;refine az (wpAny_seqItems g f ?_);simp only[Int.toNat_natCast,h];refine az (wpAny_setField b a (by simp) (bA ⟨x,rfl,bA (j _ ?_ (Heap.SameBut.update ..))⟩));refine⟨_,Cc _ b (Obj.isFreed_of_fields (Obj.data_mapFields a _)),(Obj.cls_mapFields ..).trans e,?_⟩;rw[Obj.data_mapFields a];simp[rawInt]
theorem GI{it t:Addr}{i:Nat}{f:Array Value}{Q:Value->Shared->Prop}(hb:HB s.heap A)(n:∀a,A.handled=some (.ref a)->a≠it)(d:s.heap.IsListIter it t i)(gt:s.heap.IsList t f)(j:f[i]?=none)(l:∀h' e,Heap.ExtBut it s.heap h'->(∃o,h'.get? e=some o/\o.cls= .type "StopIteration")->E (.ref e) {s with heap:=h'}):wpAny (model prog w) A (Builtin.SmallTypes.nextOf (.ref it)) Q E s:=by obtain⟨r,c,p,b⟩:=id d;obtain⟨u,h,_,q,g⟩:=gt;unfold Builtin.SmallTypes.nextOf;refine az (wpAny_callSpecial?_slot (name:=Str.ofString "__next__") d.typeIs slot_listiter_next (qU slot_listiter_next d.typeIs entry_listiter_next ?_ (args_listiter_next _)));show wpAny (model prog w) _ (field (.ref it) 0>>=_) _ _ s;refine az (fw c b (x:= .ref t) rfl ?_);show wpAny (model prog w) _ (if(Value.ref t==Value.none)=true then _ else _) _ _ s;rw[if_neg (show¬(Value.ref t==Value.none)=true from fg)];show wpAny (model prog w) _ (field (.ref it) 1>>=_) _ _ s;refine az (fw c b (x:= .int i 0) rfl ?_);show wpAny (model prog w) _ (seqItems? (.ref t)>>=_) _ _ s;refine az (wpAny_seqItems h g ?_);simp only[Int.toNat_natCast,j];refine az (wpAny_rule (az (wpAny_setField c b (by simp) ?_)));exact kQ (A:=A.in1) (hb.upd n) λh' e k m=>l h' e (A6 k) m
end
theorem pD{prog:Program}{w:World}{A:Around}(it t:Addr)(ne:t≠it)(e:∀a,A.handled=some (.ref a)->a≠it)(c:Array Value):Draws prog w A it (it::t::pq A) c.size (λi v=>c[i]?=some v) (λi h=>h.IsListIter it t i/\h.IsList t c/\HB h A)where
 live:=λ_ _ st=>let⟨o,n,_⟩:=st.1;⟨o,n⟩;frame:=λi h h' st d=>by obtain⟨⟨f,e1,p⟩,⟨g,e2,q⟩,hb⟩:=st;exact⟨⟨f,d it (by simp) f e1,p⟩,⟨g,d t (by simp) g e2,q⟩,hb.frame λb hb=>d b (by simp[hb])⟩
 item:=λi s Q E hi st m=>by refine Z_ st.1 st.2.1 (x:=c[i]) (by simp[hi]) λh' k1 k2=>?_;exact m _ h' s.toks (by simp[hi]) ⟨k1,st.2.1.extBut k2.extBut ne,st.2.2.mono λa o j k=>k2.extBut a o (e a j) k⟩ k2
 done:=λs Q E st l=>GI st.2.2 e st.1 st.2.1 (by simp) l
noncomputable abbrev zl1(h:Heap)(a:Addr):Heap:=h.push {cls:= .type "list_iterator",data:= .fields #[.ref a, .int 0 0]}
noncomputable abbrev zl2(h:Heap)(a b:Addr):Heap:=(zl1 h a).push {cls:= .type "list_iterator",data:= .fields #[.ref b, .int 0 0]}
noncomputable abbrev zl3(h:Heap)(a b:Addr):Heap:=(zl2 h a b).push {cls:= .type "tuple",data:= .seq #[.ref h.objs.size, .ref (zl1 h a).objs.size]}
noncomputable abbrev zl4(h:Heap)(a b:Addr):Heap:=(zl3 h a b).push {cls:= .type "tuple",data:= .seq #[.none, .none]}
noncomputable abbrev zl5(h:Heap)(a b:Addr):Heap:=(zl4 h a b).push {cls:= .type "zip",data:= .fields #[.none, .bool false, .bool false, .ref (zl2 h a b).objs.size, .ref (zl3 h a b).objs.size]}
theorem G8(a b:Addr)(xs e:Array Value):Meets (Builtin.«zip.__new__» ⟨[.type "zip", .ref a, .ref b],[]⟩) (λ_ R s=>s.heap.IsList a xs/\s.heap.IsList b e/\R (.ok (.ret (.ref (zl4 s.heap a b).objs.size))) {s with heap:=zl5 s.heap a b}):= .of_wp λprog w A R s h=>by obtain⟨c,g,d,tk,os⟩:=s;obtain⟨k1,k2,h⟩:=h;have f:=sub_zip;have t1:Heap.IsList (Shared.heap ⟨c,g,d,tk,os⟩) a xs:=k1;have t2:Heap.IsList (Shared.heap ⟨c.push {cls:= .type "list_iterator",data:= .fields #[.ref a, .int 0 0]},g,d,tk,os⟩) b e:=Heap.IsList.push k2 _;wp_walk using wpAny_pyIter_list t1,wpAny_pyIter_list t2;exact⟨_,rfl,h⟩
section
variable{prog:Program}{w:World}{A:Around}{E:Value->Shared->Prop}{s:Shared}
theorem MU{a b:Addr}{xs i:Array Value}{Q:Value->Shared->Prop}(k1:s.heap.IsList a xs)(k2:s.heap.IsList b i)(h:∀h',IsZip h' (s.heap.objs.size+4) (s.heap.objs.size+2) (s.heap.objs.size+3) .none->IsPair h' (s.heap.objs.size+2) (.ref s.heap.objs.size) (.ref (s.heap.objs.size+1))->IsPair h' (s.heap.objs.size+3) .none .none->h'.IsListIter s.heap.objs.size a 0->h'.IsListIter (s.heap.objs.size+1) b 0->(∀c o,s.heap.get? c=some o->h'.get? c=some o)->Q (.ref (s.heap.objs.size+4)) {s with heap:=h'}):wpAny (model prog w) A (call (.type "zip") [.ref a, .ref b]) Q E s:=by
 refine callType_new F.called_zip (by decide) (F.typeCall_zip_2 _ _) (F.newCall_zip_2 _ _) (λobj=>F.args_object_init_3 obj _ _) F.entry_zip_new (G8 a b xs i) ⟨k1,k2,?_⟩;have e1:(zl1 s.heap a).objs.size=s.heap.objs.size+1:=Heap.size_push ..;have e2:(zl2 s.heap a b).objs.size=s.heap.objs.size+2:=by rw[Heap.size_push,e1]
 have e3:(zl3 s.heap a b).objs.size=s.heap.objs.size+3:=by rw[Heap.size_push,e2]
 have d:(zl4 s.heap a b).objs.size=s.heap.objs.size+4:=by rw[Heap.size_push,e3]
 have p5:(zl5 s.heap a b).get? (zl4 s.heap a b).objs.size=some _:=gj _ rfl;have g:(zl5 s.heap a b).get? (zl3 s.heap a b).objs.size=some _:=cf _ (gj _ rfl);have f:(zl5 s.heap a b).get? (zl2 s.heap a b).objs.size=some _:=cf _ (cf _ (gj _ rfl));have e:(zl5 s.heap a b).get? (zl1 s.heap a).objs.size=some _:=cf _ (cf _ (cf _ (gj _ rfl)));have j:(zl5 s.heap a b).get? s.heap.objs.size=some _:=cf _ (cf _ (cf _ (cf _ (gj _ rfl))));show _/\_;rw[e2,e3,d]at p5;rw[e1,e2]at f;rw[e3]at g;rw[e1]at e;rw[d];refine⟨⟨_,p5,rfl⟩,h _ p5 f g ⟨_,j,rfl,rfl⟩ ⟨_,e,rfl,rfl⟩ λc o q=>?_⟩;exact cf _ (cf _ (cf _ (cf _ (cf _ q))))
end
end L3
end
section
namespace L3
open PySem PySem.Spec PyProof.Rows L2
theorem Cj{X:Cx}{pins:List (Addr×Obj)}{σ:L2.St}{H:Hp}{s:Shared}{a d:Addr}{xs:List V}(I:Inv X pins σ H s)(q:bE X.K H a xs)(f:m9 X pins H d):a≠d:=λz=>by
 subst z;rcases q with(q|⟨o,q⟩)|⟨o,_,_,q,_⟩;·rw[f.1]at q;cases q
 ·rw[f.1]at q;cases q
 ·have e:=I.ok.mod.Ly a o q;rcases f.2.2.2.1 with z|z;·exact I.ok.zi a o e z
  ·exact absurd (gP (b_ e) I.ok.Ft) (Nat.not_lt.mpr z)
noncomputable def ab7(K:PySem.W.Frag)(a b:Addr):It:=⟨λi H=>∃xs c x y,bE K H a xs/\bE K H b c/\xs[i]?=some x/\c[i]?=some y,λi H v H'=>∃p x y,v= .ref p/\H p=none/\H'=upd H p (.tup [x,y])/\∀xs c,bE K H a xs->bE K H b c->xs[i]?=some x/\c[i]?=some y,λi H=>∃xs c,bE K H a xs/\bE K H b c/\xs.length=i⟩
structure aat(a b z TI TO i1 i2:Addr)(i:Nat)(h:Heap):Prop where
 z:IsZip h z TI TO .none
 TI:IsPair h TI (.ref i1) (.ref i2)
 TO:∃u v,IsPair h TO u v
 i1:h.IsListIter i1 a i
 i2:h.IsListIter i2 b i
theorem Mj{P:Program}{w:World}{K:PySem.W.Frag}{es:List Expr}{k:Nat}{pos:Pos}(a b n:Nat):Turn P w K (.Tuple es k pos) (ab7 K a b) [n+4,n+2,n+3,n,n+1] (n+4) (aat a b (n+4) (n+2) (n+3) n (n+1))where
 mem:=by simp
 obj:=λi h st c hc=>by
  simp only[kZ,pj,or_false]at hc;obtain⟨r,e1,_,d1⟩:=st.i1;obtain⟨J,e2,_,d2⟩:=st.i2;obtain⟨u,v,m⟩:=st.TO;rcases hc with rfl|rfl|rfl|rfl|rfl;·exact⟨_,st.z,λv q=>by cases q⟩
  ·exact⟨_,st.TI,λv q=>by cases q⟩
  ·exact⟨_,m,λv q=>by cases q⟩
  ·exact⟨r,e1,λv q=>by rw[d1]at q;cases q⟩
  ·exact⟨J,e2,λv q=>by rw[d2]at q;cases q⟩
 keep:=λi h h' st kp=>by obtain⟨r,e1,r1⟩:=st.i1;obtain⟨J,e2,r2⟩:=st.i2;obtain⟨u,v,m⟩:=st.TO;exact⟨kp _ (by simp) _ st.z,kp _ (by simp) _ st.TI,⟨u,v,kp _ (by simp) _ m⟩,⟨r,kp _ (by simp) _ e1,r1⟩,⟨J,kp _ (by simp) _ e2,r2⟩⟩
 item:=by
  intro X C hw B hc i pins s σ H E I hf st D;subst C hw B;obtain⟨xs,ys,x,y,q1,q2,U,V⟩:=D;obtain⟨p,M,L,_⟩:=I.list q1;obtain⟨F,rv2,p2,_⟩:=I.list q2;obtain⟨N,R,ru1⟩:=M.get U;obtain⟨O,S,ru2⟩:=rv2.get V;obtain⟨u,v,m⟩:=st.TO;have W:=b_ st.z;have l1:i<p.toArray.size:=by rw[c8];exact(List.getElem?_eq_some_iff.mp R).1
  have l2:i<F.toArray.size:=by rw[c8];exact(List.getElem?_eq_some_iff.mp S).1
  have g:∀d∈[n+4,n+2,n+3,n,n+1],a≠d:=λd hd=>Cj I q1 (hf d hd);have l:∀d∈[n+4,n+2,n+3,n,n+1],b≠d:=λd hd=>Cj I q2 (hf d hd);have j:oG (n+4) (n+2) (n+3) n (n+1) (n::a::pq X.A.in1) ((n+1)::b::pq X.A.in1):=by have G:∀d∈[n+4,n+2,n+3,n,n+1],d∉pq X.A.in1:=λd hd z=>I.hna hc (hf d hd).2.2.2.1 (hf d hd).2.2.2.2.2 d (yR z) rfl;have a1:=g (n+4) (by simp);have a2:=g (n+3) (by simp);have a3:=g (n+1) (by simp);have b1:=l (n+4) (by simp);have b2:=l (n+3) (by simp);have b3:=l n (by simp);constructor<;>(try simp only[kZ,not_or])<;>first|lia|exact⟨by lia,by lia,G _ (by simp)⟩
  have t:∀d∈[n+4,n+2,n+3,n,n+1],∀a,X.A.in1.handled=some (.ref a)->a≠d:=λd hd=>I.hna hc (hf d hd).2.2.2.1 (hf d hd).2.2.2.2.2;refine Mv (pD n a (g n (by simp)) (t n (by simp)) p.toArray) (pD (n+1) b (l (n+1) (by simp)) (t (n+1) (by simp)) F.toArray) j st.z st.TI m ⟨st.i1,L.isList,I.hb hc⟩ ⟨st.i2,p2.isList,I.hb hc⟩ l1 l2 λY Z h1 tk e1 e2 z1 r s1 s2 pr kp=>?_;have e1:p.toArray[i]?=some Y:=e1;have e2:F.toArray[i]?=some Z:=e2;have ex:N=Y:=by rw[List.getElem?_toArray,R]at e1;exact Option.some.inj e1
  have ey:O=Z:=by rw[List.getElem?_toArray,S]at e2;exact Option.some.inj e2
  subst ex ey;refine⟨_,rfl,wpAny_letOwnedTupleGo_zip (s:={s with heap:=h1,toks:=tk}) z1 λh2 z2 sb=>?_⟩;have lt:∀d∈[n+4,n+2,n+3,n,n+1],d<s.heap.objs.size:=λd hd=>by
   have :d<=n+4:=by simp at hd;lia
   exact Nat.lt_of_le_of_lt this W
  have up:∀c o,c≠n+4->h1.get? c=some o->h2.get? c=some o:=λc o f e=>(sb.2 c f).trans e;have prT:h2.get? s.heap.objs.size=some {cls:= .type "tuple",data:= .seq #[N,O]}:=up _ _ (Nat.ne_of_gt W) pr;refine⟨.ref s.heap.objs.size,_,L7 (s:=s) (h':=h2) (t':=tk) (ch:=[n+4,n+3,n,n+1]) (T:=s.heap.objs.size) (o:= .tup [x,y]) I (λc o f e=>?_) (λd hd=>hf d (by simp only[kZ,pj,or_false]at hd⊢;rcases hd with z|z|z|z<;>simp[z])) (bN _) ?_,rfl,⟨_,x,y,rfl,I.cj.fresh (bN _),rfl,λxs' ys' a1 a2=>?_⟩,?_,λd hd=>?_⟩;·simp only[kZ,pj,or_false,not_or]at f;exact up c o f.1 (kp c o f.1 f.2.1 f.2.2.1 f.2.2.2 e)
  ·exact⟨(c7 rfl),[N,O], .cons ru1 (.cons ru2 .nil),⟨_,prT,rfl,_,rfl⟩⟩
  ·rw[I.xB a1 q1,I.xB a2 q2];exact⟨U,V⟩
  ·obtain⟨⟨oa,ea,ra⟩,_⟩:=s1;obtain⟨⟨ob,eb,rb⟩,_⟩:=s2;refine⟨z2,up _ _ j.TIz (kp _ _ j.TIz j.TITO j.TI1 j.TI2 st.TI),⟨_,_,up _ _ (by lia) r⟩,⟨oa,up _ _ (by lia) ea,ra⟩,⟨ob,up _ _ (by lia) eb,rb⟩⟩
  ·rw[aY (eN (lt d hd))];exact(hf d hd).1
 done:=by
  intro X C hw B hc i pins s σ H E I hf st D;subst C hw B;obtain⟨xs,ys,q1,q2,hl⟩:=D;obtain⟨p,M,L,_⟩:=I.list q1;obtain⟨u,v,m⟩:=st.TO;have g:∀d∈[n+4,n+2,n+3,n,n+1],a≠d:=λd hd=>Cj I q1 (hf d hd);have l:∀d∈[n+4,n+2,n+3,n,n+1],b≠d:=λd hd=>Cj I q2 (hf d hd);have j:oG (n+4) (n+2) (n+3) n (n+1) (n::a::pq X.A.in1) ((n+1)::b::pq X.A.in1):=by have G:∀d∈[n+4,n+2,n+3,n,n+1],d∉pq X.A.in1:=λd hd z=>I.hna hc (hf d hd).2.2.2.1 (hf d hd).2.2.2.2.2 d (yR z) rfl;have a1:=g (n+4) (by simp);have a2:=g (n+3) (by simp);have a3:=g (n+1) (by simp);have b1:=l (n+4) (by simp);have b2:=l (n+3) (by simp);have b3:=l n (by simp);constructor<;>(try simp only[kZ,not_or])<;>first|lia|exact⟨by lia,by lia,G _ (by simp)⟩
  have hi:p.toArray.size=i:=by rw[c8,<-M.length];exact hl
  subst hi;have t:∀d∈[n+4,n+2,n+3,n,n+1],∀a,X.A.in1.handled=some (.ref a)->a≠d:=λd hd=>I.hna hc (hf d hd).2.2.2.1 (hf d hd).2.2.2.2.2;refine M8 (pD n a (g n (by simp)) (t n (by simp)) p.toArray) j st.z st.TI m ⟨st.i1,L.isList,I.hb hc⟩ λh1 kp=>⟨rfl,?_⟩;refine SX (t':=s.toks) (ch:=[n+4,n+3,n,n+1]) I (λc o f e=>?_) λd hd=>hf d (by simp only[kZ,pj,or_false]at hd⊢;rcases hd with z|z|z|z<;>simp[z]);simp only[kZ,pj,or_false,not_or]at f;exact kp c o f.1 f.2.1 f.2.2.1 f.2.2.2 e
 self:=λA i s Q E st h=>wpAny_pyIter_zip st.z h
noncomputable def acu(K:PySem.W.Frag)(d:TA):TI:=λσ H R=>d σ H λvs c=>∃a b xs e,vs=[.ref a, .ref b]/\bE K c a xs/\bE K c b e/\R (ab7 K a b) c
theorem SD{X:Cx}{es:List Expr}{k:Nat}{B:Pos}{a b:Expr}{j:TA}{p i:Pos}(n:Gl X "zip")(hm:X.mg "zip"=none)(ha:PA X [a,b] j)(o:starEach [a,b] X.env=[(false,eval a X.env),(false,eval b X.env)]:=by rfl)(g:starEach [b] X.env=[(false,eval b X.env)]:=by rfl):PI X (.Tuple es k B) (.Call (.Name "zip" p) [a,b] [] i) (acu X.K j):=by
 intro pins s σ H R I h;refine Call_ (pd I n hm boot_zip (PyProof.Rows.callWith_type1 (b9 (ha i pins s σ H _ I h) λus s1⟨vs,f,c,v,q1⟩=>?_) (by rw[o,g]) (by rw[g];rfl)));obtain⟨a1,b1,xs,K,e,k1,k2,q⟩:=q1;subst e;obtain⟨G,J,rfl,w,x⟩:=Vals.two v;cases w;cases x;obtain⟨C,E,t,_⟩:=c.list k1;obtain⟨D,F,u,_⟩:=c.list k2;refine MU t.isList u.isList λh1 l t1 r y A kp=>?_;refine wpAny_pyIter_zip (s:={s1 with heap:=h1}) l ?_;have m:Inv X pins σ f {s1 with heap:=h1}:=c.kept (t':=s1.toks) kp;refine⟨_,_,_,_,f,rfl,m,Mj a1 b1 s1.heap.objs.size,⟨l,t1,⟨_,_,r⟩,y,A⟩,λd hd=>?_,q⟩;have :s1.heap.objs.size<=d:=by simp only[kZ,pj,or_false]at hd;rcases hd with z|z|z|z|z<;>rw[z]<;>first|exact Nat.le_add_right _ _|exact bN _
 exact c.Uy this (c.cj.fresh this)
theorem xI:bootBuiltins "tuple"=some (.type "tuple"):=by decide+kernel
theorem Qf:bootBuiltins "int"=some (.type "int"):=by decide+kernel
theorem S5:bootBuiltins "bool"=some (.type "bool"):=by decide+kernel
theorem Cs:bootBuiltins "list"=some (.type "list"):=by decide+kernel
theorem eK:bootBuiltins "len"=some (.builtin "len"):=by decide+kernel
theorem cx:bootBuiltins "isinstance"=some (.builtin "isinstance"):=by decide+kernel
theorem GW:bootBuiltins "max"=some (.builtin "max"):=by decide+kernel
def Df(K:PySem.W.Frag)(mg:Str->Option Value)(x:Str)(st:Stmt)(ps:List Str):Prop:=∃f fd,Wm K x x st f fd/\mg x=some (.ref f)/\Binds K fd ps []
noncomputable def bx(P:Program)(w:World)(K:PySem.W.Frag)(mg:Str->Option Value)(CX:oX)(x:Str)(k:Nat)(ps:List Str)(sp:Sp):Prop:=∃f fd,(∀base,oD P w K mg base CX k f fd ps sp)/\mg x=some (.ref f)/\PySem.W.keepIn K (.ref f)=true/\Binds K fd ps []
section
variable{P:Program}{w:World}{K:PySem.W.Frag}{mg:Str->Option Value}
theorem Df.ok{x:Str}{st:Stmt}{N ps:List Str}{k:Nat}{sp:Sp}(D:Df K mg x st ps)(S:aT N ps (ar st))(len:∀vs H Q E,sp vs H Q E->vs.length=ps.length)(a:∀(base:Heap)(f:Addr)(cZ:Value)(A:Around)(outer:List Env)(s:Shared)(H:Hp)(vs:List V)(Q:VK)(E:XK),da k (A.deeper (envOfC x (ar st) s.heap.objs.size f cZ))->sp vs H Q E->∃t,iO (fE bF P w K mg base N x (ar st) f cZ A outer s H E).Nc (cU st) t/\t {nx:=λ_ H'=>Q .a_ H',rt:=Q} (start N vs) H):bx P w K mg bF x (k+1) ps sp:=by obtain⟨f,fd,F,m,b⟩:=D;exact⟨f,fd,λbase=>F.ok S len (a base f),m,F.kp,b⟩
theorem bx.mono{CX:oX}{x:Str}{j k:Nat}{ps:List Str}{sp:Sp}(F:bx P w K mg CX x j ps sp)(h:j<=k):bx P w K mg CX x k ps sp:=by obtain⟨f,fd,F,r⟩:=F;exact⟨f,fd,λbase=>(F base).mono h,r⟩
theorem bx.never{x:Str}{st:Stmt}{ps:List Str}{sp:Sp}{k:Nat}{CX:oX}(D:Df K mg x st ps)(no:∀vs H Q E,¬sp vs H Q E):bx P w K mg CX x k ps sp:=by obtain⟨f,fd,F,m,b⟩:=D;exact⟨f,fd,λbase=>⟨λvs H Q E h=>absurd h (no vs H Q E),λA outer s H args us vs Q E _ _ _ _ h=>absurd h (no vs H Q E)⟩,m,F.kp,b⟩
end
noncomputable def zG(h:Heap)(H:Hp)(fs:List Addr):Heap:=PySem.W.hideAll (CB h H) fs
theorem j2{h:Heap}{H:Hp}{fs:List Addr}{b:Addr}{o:Obj}(e:h.get? b=some o)(n:H b=none)(hf:b∉fs):(zG h H fs).get? b=some o:=PySem.W.hideAll_get _ (my e n) hf
theorem Ub{h:Heap}{H:Hp}{fs:List Addr}{b:Addr}{o:Obj}(e:(zG h H fs).get? b=some o):h.get? b=some o/\H b=none:=JI (PySem.W.of_hideAll fs e)
theorem MG(h:Heap)(H:Hp)(fs:List Addr):(zG h H fs).objs.size=h.objs.size:=(PySem.W.hideAll_size _ _).trans (zO h H)
theorem ni{h B a:Heap}:∀{l:List Env},h.FunFrames B l->(∀L∈jT l,a.get? L=none)->h.FunFrames a l|[],_,_=>trivial|env::l,⟨c,⟨L,o,hf,_,d,hd⟩,e⟩,hn=>⟨c,⟨L,o,hf,hn L (by unfold jT;rw[List.filterMap_cons,hf];exact eD),d,hd⟩,ni e λb hb=>hn b (by unfold jT at hb⊢;rw[List.filterMap_cons,hf];exact eA _ hb)⟩
theorem Nn{X:Cx}{pins:List (Addr×Obj)}{σ:L2.St}{H:Hp}{s:Shared}(I:Inv X pins σ H s)(hc:X.calm=true):Es X.prog X.w X.K X.mg (zG s.heap H (jT X.stack)) X.A X.stack s H:=by
 have d:∀b o,X.base.get? b=some o->b∉jT X.stack:=λb o e z=>by
  rcases List.mem_cons.mp (I.gK b z)with z|z;·have :=b_ e;rw[z]at this;exact absurd this (Nat.not_lt.mpr (dJ I.ok.Ft I.ok.above))
  ·exact I.ok.Zd e z
 have up:∀b o,X.base.get? b=some o->(zG s.heap H (jT X.stack)).get? b=some o:=λb o e=>j2 (I.bs b o e).1 (I.bs b o e).2 (d b o e);obtain⟨mb,b1,b2⟩:=I.ok.mod.blt;refine⟨I.ok.frames,⟨I.ok.mod.Ly.keeps up,I.ok.mod.glob.keeps up,⟨mb,b1.keeps up,b2⟩,I.ok.mod.nolimit.keeps up,I.ok.mod.bm.keeps up⟩,λb o e=>Ub e,Nat.le_of_eq (MG _ _ _),ni I.stack λL c=>PySem.W.hideAll_none _ c,I.A5,I.cj,I.bare,?_⟩;rcases I.ok.hd hc with h|⟨a,oe,vs,e1,e2,e3⟩;·exact .inl h
 ·refine .inr ⟨a,oe,vs,e1,?_,e3⟩;rcases e2 with e2|e2;·exact up a oe e2
  ·obtain⟨q1,q2,q3,q4,_⟩:=I.pin (a,oe) (oU _ e2);refine j2 q1 q2 λz=>?_;rcases List.mem_cons.mp (I.gK a z)with z|z;·exact q3 z
   ·exact q4 z
theorem Kh{X:Cx}{CX:oX}{k:Nat}{f:Addr}{fd:FuncData}{ps:List Str}{sp:Sp}{E:XK}{pins:List (Addr×Obj)}{σ:L2.St}{H:Hp}{s:Shared}{Q:VK}{us:List Value}{vs:List V}{a:Value->Shared->Prop}(F:∀base,oD X.prog X.w X.K X.mg base CX k f fd ps sp)(c:da k X.A)(hb:Binds X.K fd ps [])(I:Inv X pins σ H s)(hc:X.calm=true)(d:∀e s',CX X.A.handled X.stack H s E e s'->a e s')(r:Vals vs us)(h:sp vs H Q E):wpAny (model X.prog X.w) X.A (call (.ref f) us) (EP X pins σ Q) a s:=by
 have hl:us.length=ps.length:=by rw[<-r.length];exact(F (zG s.heap H (jT X.stack))).len _ _ _ _ h
 have b:=hb s us I.kK (by rw[lV];exact hl);rw[lV]at b;refine wpAny_call (codeAny_mono ((F _).run X.A X.stack s H ⟨us,[]⟩ us vs Q E c (Nn I hc) b r h) λr s' hq=>?_);cases r with|error e=>exact d e s' hq|ok fl=>cases fl with|ret u=>exact I.after hq|next=>exact False.elim hq|brk=>exact False.elim hq|cont=>exact False.elim hq
theorem aI{X:Cx}{CX:oX}{x:Str}{k:Nat}{ps:List Str}{sp:Sp}{E:XK}{e:Expr}{es:List Expr}{t:TA}{p c:Pos}(F:bx X.prog X.w X.K X.mg CX x k ps sp)(n:da k X.A)(j:Gl X x)(o:Passes CX X E)(ha:PA X (e::es) t)(g:(x==("__debug__":Str))=false:=by decide)(i:starEach (e::es) X.env=(false,eval e X.env)::starEach es X.env:=by rfl)(l:(backTo c (starEach es X.env)).any (·.1)=false:=by rfl)(hc:X.calm=true:=by rfl):PE X (.Call (.Name x p) (e::es) [] c) (ac3 sp [] E t):=by obtain⟨f,fd,F,m,kp,b⟩:=F;intro pins s σ H Q I h;refine wpAny_Call_Name_kw (jw I j m ?_ g);refine PySem.W.callWith_K (h₀:=X.base) I.ok.mod.Ly kp (b9 (ha c pins s σ H _ I h) λus s1⟨vs,d,a,r,q⟩=>⟨a.kK,?_⟩) i l;have q:sp (vs++[]) d Q E:=q;rw[lV]at q;exact Kh F n b a hc (λe s' hc=>o pins σ d s1 e s' a hc) r q
theorem Bp{X:Cx}{x:Str}{i:Int}{b:Pos}(hm:∃t,X.mg x=some (.int i t))(a:Gl X x)(hd:(x==("__debug__":Str))=false:=by decide):PE X (.Name x b) (tC (.int i)):=by obtain⟨t,hm⟩:=hm;exact JR a hm ⟨t,rfl⟩ hd
theorem cM{X:Cx}{x:Str}{a:Addr}{c:Pos}(hm:X.mg x=some (.ref a))(b:Gl X x)(hd:(x==("__debug__":Str))=false:=by decide):PE X (.Name x c) (tC (.ref a)):=JR b hm rfl hd
theorem IC{X:Cx}{x:Str}{n:String}{c:Pos}(hm:X.mg x=none)(b:bootBuiltins x=some (.type n))(a:Gl X x)(hn:x≠"__name__":=by decide)(hd:(x==("__debug__":Str))=false:=by decide):PE X (.Name x c) (tC (.ty n)):=Uk a hm b rfl hn hd
noncomputable def QU(outer:List (Str×NameKind))(N N':List Str)(own:Nat)(fr:List Nat)(scope:Scope):Bool:=scope.names.all (λy=>y.2 != .cell&&(y.2 != .local||scope.names.lookup y.1==some .local)&&(y.2 != .free||outer.lookup y.1==some .cell||outer.lookup y.1==some .free))&&decide (N'.length=own+fr.length)&&(List.range fr.length).all (λj=>match fr[j]? with
 |some i=>match N'[own+j]? with|some x=>N[i]?==some x&&scope.names.lookup x==some .free|none=>false
 |none=>true)
theorem j8{X:Cx}{N N':List Str}{own:Nat}{fr:List Nat}{sc scope:Scope}(g:X.env.scope=sc)(c:X.N=N)(f:scope.kind= .function)(h:QU sc.names N N' own fr scope=true):nH X N' own fr scope:=by
 unfold QU at h;simp only[cW,List.all_eq_true,decide_eq_true_eq]at h;obtain⟨⟨h1,h2⟩,h3⟩:=h;subst c;refine⟨f,λy a=>?_,λy a e=>?_,λy a e=>?_,h2,λj i e=>?_⟩;·simpa using(h1 y a).1.1
 ·have :=(h1 y a).1.2;simpa[e]using this
 ·have :=(h1 y a).2;unfold Env.kindOf;rw[g];simpa[e]using this
 ·have d:j<fr.length:=(List.getElem?_eq_some_iff.mp e).1;have :=h3 j (by simpa using d);rw[e]at this;cases b:N'[own+j]? with|none=>simp[b]at this|some x=>simp only[b,cW,beq_iff_eq]at this;exact⟨x,rfl,this.1,this.2⟩
theorem Mi(a v:Value):argsOk "max" ⟨[a],[(Str.ofString "default",v)]⟩:=by unfold argsOk;kernel_rfl
section
variable{prog:Program}{w:World}{A:Around}{E:Value->Shared->Prop}{s:Shared}
theorem E8{id:String}{b:Builtin}{args:List Value}{a:List (Str×Value)}{Q:Value->Shared->Prop}(g:builtinKind id=none)(h:plainId id=true)(hb:entryFor table id=some b)(ha:argsOk id ⟨args,a⟩)(hc:wpAny (model prog w) A.in1 (b ⟨args,a⟩) (λfin s'=>match fin with| .done f=>(match(Except.ok f:Result)with| .ok (.ret v)=>Q v s'| .ok _=>False| .error e=>E e s')| .again c=>c.quiet=true/\codeAny (model prog w) A c (λr s'=>match r with| .ok (.ret v)=>Q v s'| .ok _=>False| .error e=>E e s') s') E s):wpAny (model prog w) A (call (.builtin id) args a) Q E s:=by refine wpAny_call (codeAny_call_builtin h hb ?_);simp only[checkBuiltinCall,g];cases i:Manifest.signature? id with|none=>exact bA hc|some d=>simp only[argsOk,i]at ha;have h2:Bind.checkArgs id d ⟨args,a⟩=pure ():=ha;show wpAny _ A.in1 (Bind.checkArgs id d ⟨args,a⟩) _ _ s;rw[h2];exact bA hc
theorem Si{i j:Int}{t u:Tok}{Q:Value->Shared->Prop}(h:Q (.bool (decide (i>j))) s):wpAny (model prog w) A (richCompare .Gt (.int i t) (.int j u)) Q E s:=richCompare_gives (op:= .Gt) (typeIs_int s _ t) (typeIs_int s _ u) F.slot_int_gt F.entry_int_gt (F.args_int_gt_2 _ _) (gives_int_gt _ _ t u) (λx=>nomatch x) h
end
noncomputable def Zn(m x:Int):Int:=if x>m then x else m
noncomputable def maxD(ns:List Int)(d:Int):Int:=match ns with|[]=>d|a::r=>r.foldl Zn a
def YQ(ns:List Int)(j:Nat)(l:Array Value):Prop:=(j=0/\l=#[])\/(0<j/\∃t,l=#[.int (maxD (ns.take j) 0) t, .int (maxD (ns.take j) 0) t])
theorem LO{l:List Int}(x d:Int)(h:l≠[]):maxD (l++[x]) d=Zn (maxD l d) x:=by cases l with|nil=>exact absurd rfl h|cons a r=>simp[maxD,List.foldl_append]
section
variable{prog:Program}{w:World}{A:Around}{R:Result->Shared->Prop}{I:Addr}{fp wr:List Addr}{P:Nat->Value->Prop}{St:Nat->Heap->Prop}
theorem LZ{ns:List Int}{d:Value}(W:Walks prog w A.in1 I fp wr ns.length P St)(V:∀(i:Nat)v,P i v->∃x t,ns[i]?=some x/\v= .int x t)(S:Addr)(N:S∉fp):∀(k j:Nat)(s:Shared)(l:Array Value)(c:Nat),ns.length-j=k->j<=ns.length->St j s.heap->YQ ns j l->s.heap.get? S=some {cls:= .type "list",dict:=none,data:= .seq l c,slots:=#[]}->(∀v h' tk,(ns=[]/\v=d\/ns≠[]/\∃t,v= .int (maxD ns 0) t)->(∀b o,b∉wr->b≠S->s.heap.get? b=some o->h'.get? b=some o)->R (.ok (.ret v)) {s with heap:=h',toks:=tk})->codeAny (model prog w) A (.builtin "max.loop" ⟨[.ref I, .none, .ref S],[(Str.ofString "default",d)]⟩) R s:=by
 have O:S∉wr:=λh=>N (W.sub _ h);have T:(toString "max"++toString ".loop":String)="max.loop":=by decide
 intro k;induction k with
  |zero=>
   intro j s l c Z Y D hb p n;have y:j=ns.length:=by lia
   refine codeAny_builtin F.entry_max_loop ?_;rw[Around.under_plainId F.plain_max_loop _];show wpAny _ A.in1 (seqItems? (.ref S)>>=_) _ _ s;refine az (wpAny_seqItems p rfl ?_);rcases hb with⟨K,rfl⟩|⟨K,t,rfl⟩;·show wpAny _ A.in1 (tryCatch (pyNext (.ref I)) _>>=_) _ _ s;refine az (wpAny_tryCatch (W.done s _ _ (y▸D) λh' tk f=>?_));show wpAny _ A.in1 (rule _>>=_) _ _ _;refine az (wpAny_rule (bA ?_));have e:ns=[]:=List.eq_nil_of_length_eq_zero (by lia);exact n d _ tk (.inl ⟨e,rfl⟩) λb o a g q=>f b o a q
   ·show wpAny _ A.in1 (tryCatch (pyNext (.ref I)) _>>=_) _ _ s;refine az (wpAny_tryCatch (W.done s _ _ (y▸D) λh' tk f=>?_));have m:=f S _ O p;show wpAny _ A.in1 (updateSeq S (λ_=>#[])>>=_) _ _ _;refine az ?_;refine wpAny_updateSeq m rfl (az (wpAny_letGo (bA ?_)));have e:ns≠[]:=λz=>by rw[z]at y;simp at y;lia
    refine n _ _ tk (.inr ⟨e,t,by rw[y,List.take_length]⟩) λb o a g q=>(k9 _ _ (Ne.symm g)).trans (f b o a q)
  |succ k U=>
   intro j s l c Z Y D hb p n;have C:j<ns.length:=by lia
   refine codeAny_builtin F.entry_max_loop ?_;rw[Around.under_plainId F.plain_max_loop _];show wpAny _ A.in1 (seqItems? (.ref S)>>=_) _ _ s;refine az (wpAny_seqItems p rfl ?_);have X:∀x,ns[j]?=some x->ns.take (j+1)=ns.take j++[x]:=λx G=>by rw[List.take_add_one,G];rfl
   rcases hb with⟨K,rfl⟩|⟨K,t,rfl⟩
   ·show wpAny _ A.in1 (tryCatch (pyNext (.ref I)) _>>=_) _ _ s;refine az (wpAny_tryCatch (W.item j s _ _ C D λv h' tk M L f=>?_));obtain⟨x,u,G,rfl⟩:=V j v M;have m:=f S _ O p;show wpAny _ A.in1 (updateSeq S (λ_=>#[.int x u, .int x u])>>=_) _ _ _;refine az ?_;refine wpAny_updateSeq m rfl ?_;rw[T];refine bA ⟨plainId_quiet F.plain_max_loop _,U (j+1) _ _ _ (by lia) C (W.frame _ _ _ L λb Q o e=>?_) (.inr ⟨by lia,u,?_⟩) (Cc _ m rfl) λJ r H E B=>?_⟩;·exact(k9 _ _ (λh:S=b=>N (by rw[h];exact Q))).trans e
    ·rw[X x G,K];rfl
    ·exact n J r H E λb o a g e=>B b o a g ((k9 _ _ (Ne.symm g)).trans (f b o a e))
   ·show wpAny _ A.in1 (tryCatch (pyNext (.ref I)) _>>=_) _ _ s;refine az (wpAny_tryCatch (W.item j s _ _ C D λv h' tk M L f=>?_));obtain⟨x,u,G,rfl⟩:=V j v M;have m:=f S _ O p;have ne:ns.take j≠[]:=λz=>by
     have :(ns.take j).length=0:=by rw[z];rfl
     rw[iu]at this;lia
    have em:maxD (ns.take (j+1)) 0=Zn (maxD (ns.take j) 0) x:=by rw[X x G,LO x 0 ne]
    show wpAny _ A.in1 (tryCatch (holding [.int x u, .int x u] (richCompare .Gt (.int x u) (.int (maxD (ns.take j) 0) t)>>=_)) _>>=_) _ _ _;refine az (wpAny_tryCatch (kf (az (Si ?_))));refine az (kf (wpAny_truthy_bool ?_));refine az (wpAny_letGo (bA ?_));by_cases hb:x>maxD (ns.take j) 0
    ·rw[decide_eq_true hb];simp only[if_true];refine az ?_;refine wpAny_updateSeq m rfl (az (wpAny_letGo ?_));rw[T];refine bA ⟨plainId_quiet F.plain_max_loop _,U (j+1) _ _ _ (by lia) C (W.frame _ _ _ L λb Q o e=>?_) (.inr ⟨by lia,u,?_⟩) (Cc _ m rfl) λJ r H E B=>?_⟩;·exact(k9 _ _ (λh:S=b=>N (by rw[h];exact Q))).trans e
     ·rw[em,Zn,if_pos hb]
     ·exact n J r H E λb o a g e=>B b o a g ((k9 _ _ (Ne.symm g)).trans (f b o a e))
    ·rw[decide_eq_false hb];simp only[Bool.false_eq_true,if_false];refine az (wpAny_letGo ?_);rw[T];refine bA ⟨plainId_quiet F.plain_max_loop _,U (j+1) _ _ c (by lia) C L (.inr ⟨by lia,t,?_⟩) m λJ r H E B=>?_⟩;·rw[em,Zn,if_neg hb]
     ·exact n J r H E λb o a g e=>B b o a g (f b o a e)
end
theorem ints_get:∀{ns:List Int}{us:List Value},Vals (ns.map V.int) us->∀(i:Nat)(u:Value),us[i]?=some u->∃x t,ns[i]?=some x/\u= .int x t|[],_, .nil,i,u,e=>by simp at e|n::ns,_, .cons r t,0,u,e=>by obtain⟨tk,r⟩:=r;simp at e;exact⟨n,tk,rfl,by rw[<-e,r]⟩|n::ns,_, .cons r t,i+1,u,e=>by simpa using ints_get t i u (by simpa using e)
section
variable{X:Cx}{pins:List (Addr×Obj)}{σ:L2.St}{H:Hp}{s:Shared}
theorem QV{p:Addr}{ns:List Int}{i:Int}{v:Value}{Q:VK}(hc:X.calm=true)(I:Inv X pins σ H s)(hq:bE X.K H p (ns.map V.int))(D:RelV (.int i) v)(q:Q (.int (maxD ns i)) H):wpAny (model X.prog X.w) X.A (call (.builtin "max") [.ref p] [(Str.ofString "default",v)]) (EP X pins σ Q) X.xe s:=by
 obtain⟨k,r,pl,E⟩:=I.list hq;have hl:=pl.isList;have lt:p<s.heap.objs.size:=by obtain⟨o,e,_⟩:=hl;exact b_ e
 have C:∀a,X.A.in1.handled=some (.ref a)->a≠s.heap.objs.size:=λa c=>by
  rcases I.hb hc with z|⟨b,oe,vs,e1,e2,_⟩;·rw[show X.A.in1.handled=X.A.handled from rfl,z]at c;cases c
  ·rw[show X.A.in1.handled=X.A.handled from rfl,e1]at c;cases c;exact eN (b_ e2)
 have x:(toString "max"++toString ".loop":String)="max.loop":=by decide
 refine E8 F.kind_max F.plain_max F.entry_max (Mi _ _) ?_;show wpAny _ X.A.in1 (Builtin.Builtins.bindParams "max" ["key","default"] 0 ⟨[],[(Str.ofString "default",v)]⟩>>=_) _ _ s;refine az (wpAny_of_eq (show Builtin.Builtins.bindParams "max" ["key","default"] 0 ⟨[],[(Str.ofString "default",v)]⟩=pure [none,some v]from rfl) ?_);refine az (bA ?_);refine az (wpAny_pyIter_list hl ?_);refine az (wpAny_newObj_type ?_);have len:k.toArray.size=ns.length:=by rw[c8,<-r.length,cV]
 have h:=Gq (prog:=X.prog) (w:=X.w) (A:=X.A.in1) s.heap.objs.size p (eN lt) k.toArray C;rw[len]at h;rw[x];have m:((s.heap.push {cls:= .type "list_iterator",data:= .fields #[.ref p, .int 0 0]}).objs.size)∉s.heap.objs.size::p::pq X.A.in1:=by
  rw[Heap.size_push];intro z;rcases List.mem_cons.mp z with z|z;·exact Nat.succ_ne_self _ z
  ·rcases List.mem_cons.mp z with z|z;·rw[<-z]at lt;exact Nat.not_succ_lt_self lt
   ·have g:=yR z;rcases I.hb hc with q|⟨b,oe,vs,e1,e2,_⟩;·rw[show X.A.in1.handled=X.A.handled from rfl,q]at g;cases g
    ·rw[show X.A.in1.handled=X.A.handled from rfl,e1]at g;cases g;exact Nat.not_succ_lt_self (b_ e2)
 refine bA ⟨plainId_quiet F.plain_max_loop _,LZ (d:=v) h (λj u e=>ints_get r j u (by simpa using e)) _ m _ 0 _ #[] _ rfl (fW _) ?_ (.inl ⟨rfl,rfl⟩) (gj _ rfl) λu h' tk B n=>?_⟩;·exact⟨⟨_,cf _ (gj _ rfl),rfl,rfl⟩,(hl.push _).push _,(I.hb hc).mono λa o _ l=>cf _ (cf _ l)⟩
 ·refine⟨.int (maxD ns i),H,I.kept (h':=h') (t':=tk) λb o f=>n b o (λhm=>?_) (λhm=>?_) (cf _ (cf _ f)),?_,q⟩;·rw[List.mem_singleton.mp hm]at f;exact Nat.lt_irrefl _ (b_ f)
  ·have :=b_ f;rw[hm,Heap.size_push]at this;exact Nat.not_succ_lt_self this
  ·rcases B with⟨rfl,rfl⟩|⟨y,t,rfl⟩;·exact D
   ·refine⟨t,?_⟩;cases ns with|nil=>exact absurd rfl y|cons a r=>rfl
end
noncomputable def acj(K:PySem.W.Frag)(t tk:TA):TE:=λσ H Q=>t σ H λvs b=>tk σ b λc a=>∃p ns i,vs=[.ref p]/\c=[.int i]/\bE K a p (ns.map V.int)/\Q (.int (maxD ns i)) a
theorem Tj{X:Cx}{e d:Expr}{t tk:TA}{p kp a:Pos}(hm:X.mg "max"=none)(ha:PA X [e] t)(k:PK X [⟨some (Str.ofString "default"),d,kp⟩] tk)(hc:X.calm=true:=by rfl)(j:Gl X "max":=by rfl)(b:starEach [e] X.env=[(false,eval e X.env)]:=by rfl):PE X (.Call (.Name "max" p) [e] [⟨some (Str.ofString "default"),d,kp⟩] a) (acj X.K t tk):=by intro pins s σ H Q I h;refine wpAny_Call_Name_kw (pd I j hm GW ?_);refine callWith_kw (b9 (ha a pins s σ H _ I h) λus s1⟨vs,c,f,l,q1⟩=>b9 (k a pins s1 σ c _ f q1) λws s2⟨w,r,g,m,q2⟩=>?_) (by rw[b];rfl) (by rw[b];rfl);obtain⟨p,ns,i,rfl,rfl,hq,q⟩:=q2;obtain⟨u,rfl,n⟩:=l.one;cases n;obtain⟨v,rfl,o⟩:=m.one;exact QV hc g hq o q
theorem eB{H a:Hp}{p:Addr}{o:HO}(h:aQ H a)(c:H p=none):aQ H (upd a p o):=λb u q=>by rw[aY (aZ q c)];exact h b u q
theorem RF{J:It}{p:Addr}{k:Hp}{g:TG}{z:TT}{w:TE}{b:L2.St}{C:Hp->Prop}(n:Nat)(f:Nat->Option V)(s:k p=none)(hn:n<=sizeLine)(D:∀i a,i<n->aQ k a->J.go i a/\∀x h,J.yW i a x h->∀(R:V->Hp->Prop)(r:Hp->Prop),(∀v j,f i=some v->aQ a j->R v j)->(∀d,f i=none->aQ a d->r d)->g x b h λo q=>z o q λok d=>if ok=true then w o d R else r d)(hd:∀a,aQ k a->a p=some (.lst ((List.range n).filterMap f))->J.stop n a/\C a):∃W:Nat->Nat->List V->Hp->Prop,(∃m,W 0 m [] (upd k p (.lst [])))/\∀i m c a,W i m c a->(J.stop i a/\C a)\/(J.go i a/\∀x h,J.yW i a x h->g x b h λo q=>z o q λok d=>if ok=true then w o d λv j=>j p=some (.lst c)/\c.length<sizeLine/\∃l,l<m/\W (i+1) l (c++[v]) (upd j p (.lst (c++[v])))else∃l,l<m/\W (i+1) l c d):=by
 refine kP (Q:=λ_ H=>C H) n (λi c a=>c=(List.range i).filterMap f/\a p=some (.lst c)/\aQ k a) ⟨rfl,aj,ao s _⟩ ?_ ?_
 ·rintro i c a hi⟨rfl,h2,s2⟩;obtain⟨A,B⟩:=D i a hi s2;have E:((List.range i).filterMap f).length<sizeLine:=by have :=List.length_filterMap_le f (List.range i);rw[List.length_range]at this;lia
  refine⟨A,λx h y=>B x h y _ _ (λv j e u=>⟨u _ _ h2,E,nx hi ⟨?_,aj,eB (s2.trans u) s⟩⟩) λd e t=>nx hi ⟨?_,t _ _ h2,s2.trans t⟩⟩;·rw[List.range_succ,List.filterMap_append];simp[e]
  ·rw[List.range_succ,List.filterMap_append];simp[e]
 ·rintro c a⟨rfl,h2,s2⟩;exact hd a s2 h2
theorem Ay{J:It}{p:Addr}{h:Hp}{g:TG}{s:TE}{b:L2.St}{C:Hp->Prop}(n:Nat)(f:Nat->V)(q:h p=none)(hn:n<=sizeLine)(w:∀i a,i<n->aQ h a->J.go i a/\∀x d,J.yW i a x d->∀(R:V->Hp->Prop),(∀e,aQ a e->R (f i) e)->g x b d λk l=>s k l R)(hd:∀a,aQ h a->a p=some (.lst ((List.range n).map f))->J.stop n a/\C a):∃W:Nat->Nat->List V->Hp->Prop,(∃m,W 0 m [] (upd h p (.lst [])))/\∀i m c a,W i m c a->(J.stop i a/\C a)\/(J.go i a/\∀x d,J.yW i a x d->g x b d λk l=>BW k l λok o=>if ok=true then s k o λv e=>e p=some (.lst c)/\c.length<sizeLine/\∃j,j<m/\W (i+1) j (c++[v]) (upd e p (.lst (c++[v])))else∃j,j<m/\W (i+1) j c o):=by
 refine kP (Q:=λ_ H=>C H) n (λi c a=>c=(List.range i).map f/\a p=some (.lst c)/\aQ h a) ⟨rfl,aj,ao q _⟩ ?_ ?_;·rintro i c a hi⟨rfl,h2,s2⟩;obtain⟨t,u⟩:=w i a hi s2;refine⟨t,λx d y=>?_⟩;simp only[BW,if_true];refine u x d y _ λe r=>⟨r _ _ h2,by rw[cV,List.length_range];lia,nx hi ⟨?_,aj,eB (s2.trans r) q⟩⟩;rw[List.range_succ,mH];rfl
 ·rintro c a⟨rfl,h2,s2⟩;exact hd a s2 h2
end L3
end
section
namespace HT
open PySem PyProof.Rows
section
open PySem.SeqAt
open PySem.AutoSeq1(wpAny_loadPart')
open PySem.MeetsSeq PySem.MeetsSeq2 PySem.MeetsSeq3
variable{prog:Program}{w:World}{A:Around}{E:Value->Shared->Prop}{s:Shared}
theorem kY{t sl:Addr}{items:Array Value}{b c:Value}{lo hi:Option Int}{Q:Value->Shared->Prop}(ht:IsTup s.heap t items)(a:s.heap.IsSliceOf sl b c .none)(pl:IsPart b lo)(i:IsPart c hi)(h1:eJ items.size 0 lo=0)(h2:eJ items.size items.size hi=items.size)(h:Q (.ref t) s):wpAny (model prog w) A (getItem (.ref t) (.ref sl)) Q E s:=by
 obtain⟨os,f,e,j⟩:=id a;have d:s.TypeIs (.ref sl) "slice":=⟨os,f,e⟩;unfold getItem;try with_reducible refine kf ?_
 first|refine az (bA ?_)|skip
 refine az (wpAny_sequenceKey ht.typeIs (by decide) ?_);refine az (wpAny_callSpecial?_slot (name:=Str.ofString "__getitem__") ht.typeIs PyProof.Rows.slot_tuple_getitem (qU PyProof.Rows.slot_tuple_getitem ht.typeIs entry_tuple_getitem ?_ (args_tuple_getitem _ _)));show wpAny _ _ (Builtin.Tuple.tupleItemsOf (.ref t)>>=_) _ _ s;refine az (tupleItemsOf_ ht ?_);refine az (wpAny_typeOf d ?_);rw[if_pos (by decide)];refine az (iP a pl i ?_);have g:(((eJ items.size 0 lo:Nat):Int)==0&&(1:Int)==1&&(eJ items.size items.size hi-eJ items.size 0 lo)==items.size)=true:=by rw[h1,h2];simp
 show wpAny _ _ (if(((eJ items.size 0 lo:Nat):Int)==0&&(1:Int)==1&&(eJ items.size items.size hi-eJ items.size 0 lo)==items.size)=true then _ else _) _ _ s;rw[if_pos g];show wpAny _ _ (Builtin.Tuple.tupleIsExact (.ref t)>>=_) _ _ s;refine az ?_;unfold Builtin.Tuple.tupleIsExact;refine az (wpAny_typeOf ht.typeIs (bA ?_));rw[if_pos (by decide)];exact az (wpAny_rule (bA ⟨_,rfl,bA h⟩))
end
end HT
end
section
namespace L3
open PySem PySem.Spec PyProof.Rows L2
noncomputable def ad7(K:PySem.W.Frag):V->Option Int->Option Int->Hp->VK->Prop:=λx lo hi H Q=>∃a xs,x= .ref a/\bU K H a xs/\(∀p,H p=none->Q (.ref p) (upd H p (.tup (gJ xs lo hi))))/\(gJ xs lo hi=xs->Q (.ref a) H)
theorem Cf{X:Cx}:SE X (ad7 X.K):=by
 intro pins s σ H x v g i lo hi sl Q I e b pl d h;obtain⟨a,xs,rfl,c,q1,q2⟩:=h;by_cases hw:HT.eJ xs.length 0 lo=0/\HT.eJ xs.length xs.length hi=xs.length
 ·cases e;obtain⟨f,r,ht,j⟩:=I.tuple c;have hlen:f.toArray.size=xs.length:=by rw[c8];exact r.length.symm
  refine⟨"tuple",_,PyProof.Rows.slot_tuple_getitem.lookup,ht.typeIs,?_⟩;refine HT.kY ht b pl d (by rw[hlen];exact hw.1) (by rw[hlen];exact hw.2) ⟨.ref a,H,I,rfl,q2 ?_⟩;unfold gJ;rw[hw.1,hw.2,List.drop_zero,Nat.sub_zero,List.take_length]
 ·exact YB pins s σ H _ v g i lo hi sl Q I e b pl d ⟨a,xs,rfl,c,hw,q1⟩
theorem kO(xs:List V)(k:Nat):gJ xs (some (k:Int)) none=xs.drop k:=by
 unfold gJ;rw[HT.Dm,HT.Ka];by_cases h:k<=xs.length;·rw[Nat.min_eq_left h];exact List.take_of_length_le (by rw[jf];lia)
 ·rw[Nat.min_eq_right (by lia),List.drop_eq_nil_of_le (bN _),List.drop_eq_nil_of_le (show xs.length<=k by lia)];simp
theorem vq(xs:List V)(k:Nat):gJ xs none (some (k:Int))=xs.take k:=by
 unfold gJ;rw[HT.Dm,HT.Ka,List.drop_zero,Nat.sub_zero];by_cases h:k<=xs.length;·rw[Nat.min_eq_left h]
 ·rw[Nat.min_eq_right (by lia),List.take_of_length_le (bN _),List.take_of_length_le (show xs.length<=k by lia)]
section
variable{X:Cx}{K:PySem.W.Frag}
theorem CK(a:X.K=K:=by rfl):iL X (.builtin "isinstance") (λxs H Q=>∃x t n b,xs=[x, .ty n]/\lP K H x t/\PySem.W.kitOne K t (.type n)=some b/\Q (.bl b) H):=by subst a;exact jW
theorem Hx(a:X.K=K:=by rfl):IxR X (T8 K):=by subst a;exact aU
end
noncomputable def jE:List Nat->Nat|[]=>0|a::r=>max a (jE r)
end L3
end
section
namespace L3
open PySem PySem.Spec L2
variable{K:PySem.W.Frag}
def zg(K:PySem.W.Frag)(a:Addr)(xs:List V):Prop:=∃(o:Obj)(b:Array Value)(n:Nat),K.lookup a=some o/\o.cls= .type "tuple"/\o.data= .seq b n/\b.size<=sizeLine/\Vals xs b.toList
structure KD(K:PySem.W.Frag)(a:Addr)(rows:List (Str×List V))(as:List Addr):Prop where
 len:as.length=rows.length
 tab:mf K a ((rows.zip as).map λp=>(p.1.1,V.ref p.2))
 sq:∀p∈rows.zip as,zg K p.2 p.1.2
theorem zW{c d:Type}{x:Str}(f:(Str×c)×d->V):∀(rows:List (Str×c))(as:List d),as.length=rows.length->(∃r a,(r,a)∈rows.zip as/\r.1=x/\rows.lookup x=some r.2/\PyProof.Rows.KTD.datumAt x ((rows.zip as).map λp=>(p.1.1,f p))=some (f (r,a)))\/(rows.lookup x=none/\PyProof.Rows.KTD.datumAt x ((rows.zip as).map λp=>(p.1.1,f p))=none)
 |[],_,_=> .inr ⟨rfl,rfl⟩
 |(k,v)::rows,[],h=>by simp at h
 |(k,v)::rows,a::as,h=>by
  have g:=zW (x:=x) f rows as (by simpa using h);by_cases e:x=k;·subst e;exact .inl ⟨(x,v),a,eD,rfl,by simp[List.lookup],by simp[PyProof.Rows.KTD.datumAt]⟩
  ·have e1:(x==k)=false:=by simpa using e
   have e2:¬k=x:=λz=>e z.symm;rcases g with⟨r,b,h1,h2,h3,h4⟩|⟨h1,h2⟩;·exact .inl ⟨r,b,eA _ h1,h2,by rw[nQ,e1];exact h3,by simp only[List.zip_cons_cons,ff,PyProof.Rows.KTD.datumAt,e,decide_false,Bool.false_eq_true,if_false];exact h4⟩
   ·exact .inr ⟨by rw[nQ,e1];exact h1,by simp only[List.zip_cons_cons,ff,PyProof.Rows.KTD.datumAt,e,decide_false,Bool.false_eq_true,if_false];exact h2⟩
theorem KD.some{a:Addr}{rows:List (Str×List V)}{as:List Addr}(T:KD K a rows as){x:Str}{ds:List V}(h:rows.lookup x=Option.some ds):∃b,PyProof.Rows.KTD.datumAt x ((rows.zip as).map λp=>(p.1.1,V.ref p.2))=Option.some (.ref b)/\∀H,bU K H b ds:=by
 rcases zW (x:=x) (λp=>V.ref p.2) rows as T.len with⟨r,b,h1,h2,h3,h4⟩|⟨h1,_⟩;·rw[h]at h3;cases h3;exact⟨b,h4,λH=> .inr (T.sq _ h1)⟩
 ·rw[h]at h1;cases h1
noncomputable def bq:List V->List Value->Bool|[],[]=>true| .str x::vs, .str y _::us=>decide (x=y)&&bq vs us| .int i::vs, .int j _::us=>decide (i=j)&&bq vs us|_,_=>false
theorem lN:∀{vs:List V}{us:List Value},bq vs us=true->Vals vs us|[],[],_=> .nil| .str x::vs, .str y t::us,h=>by simp only[bq,cW,decide_eq_true_eq]at h;obtain⟨rfl,h⟩:=h;exact .cons ⟨t,rfl⟩ (lN h)| .int x::vs, .int y t::us,h=>by simp only[bq,cW,decide_eq_true_eq]at h;obtain⟨rfl,h⟩:=h;exact .cons ⟨t,rfl⟩ (lN h)|[],_::_,h=>by simp[bq]at h|_::_,[],h=>by simp[bq]at h| .a_::_,_::_,h=>by simp[bq]at h| .bl _::_,_::_,h=>by simp[bq]at h| .Nd _::_,_::_,h=>by simp[bq]at h| .Yp _::_,_::_,h=>by simp[bq]at h| .ref _::_,_::_,h=>by simp[bq]at h| .ty _::_,_::_,h=>by simp[bq]at h| .str _::_, .none::_,h=>by simp[bq]at h| .str _::_, .int _ _::_,h=>by simp[bq]at h| .str _::_, .ref _::_,h=>by simp[bq]at h| .str _::_, .bool _::_,h=>by simp[bq]at h| .str _::_, .float _ _::_,h=>by simp[bq]at h| .str _::_, .bytes _ _::_,h=>by simp[bq]at h| .str _::_, .type _::_,h=>by simp[bq]at h| .str _::_, .builtin _::_,h=>by simp[bq]at h| .str _::_, .ellipsis::_,h=>by simp[bq]at h| .str _::_, .notImplemented::_,h=>by simp[bq]at h| .int _::_, .none::_,h=>by simp[bq]at h| .int _::_, .str _ _::_,h=>by simp[bq]at h| .int _::_, .ref _::_,h=>by simp[bq]at h| .int _::_, .bool _::_,h=>by simp[bq]at h| .int _::_, .float _ _::_,h=>by simp[bq]at h| .int _::_, .bytes _ _::_,h=>by simp[bq]at h| .int _::_, .type _::_,h=>by simp[bq]at h| .int _::_, .builtin _::_,h=>by simp[bq]at h| .int _::_, .ellipsis::_,h=>by simp[bq]at h| .int _::_, .notImplemented::_,h=>by simp[bq]at h
noncomputable def cA(vs:List V)(a:Array Value):Bool:=bq vs a.toList&&decide (a.size<=100)
theorem cH{K:PySem.W.Frag}{a:Addr}{d:Option Addr}{b:Array Value}{n:Nat}{sl:Array (Option Value)}{vs:List V}(h:K.lookup a=some ⟨.type "tuple",d, .seq b n,sl⟩)(c:cA vs b=true):zg K a vs:=by simp only[cA,cW,decide_eq_true_eq]at c;exact⟨_,b,n,h,rfl,rfl,dJ c.2 (by decide),lN c.1⟩
noncomputable def gf:List DictEntry->List Str->Bool|[],[]=>true|e::es,k::a=>(match e.key,e.val with| .str x _, .ref _=>decide (x=k)|_,_=>false)&&gf es a|_,_=>false
noncomputable def refsOf(es:List DictEntry):List Addr:=es.map λe=>match e.val with| .ref a=>a|_=>0
theorem CM:∀{es:List DictEntry}{a:List Str},gf es a=true->PyProof.Rows.KTD.Rows RelV es ((a.zip (refsOf es)).map λp=>(p.1,V.ref p.2))
 |[],[],_=> .nil
 |[],_::_,h=>by simp[gf]at h
 |_::_,[],h=>by simp[gf]at h
 |e::es,k::a,h=>by
  obtain⟨d,c,val⟩:=e;rw[gf,cW]at h;cases c with
   |str x t=>
    cases val with
     |ref b=>
      have h1:x=k:=by simpa using h.1
      subst h1;exact .cons rfl rfl (CM h.2)
     |_=>simp at h
   |_=>simp at h
theorem abZ{a:Addr}{es:Array DictEntry}{ep:Nat}{rows:List (Str×List V)}{as:List Addr}(d:(a==sysModules)=false)(c:K.lookup a=some ⟨.type "dict",none, .dict es ep,#[]⟩)(b:gf es.toList (rows.map (·.1))=true)(rf:refsOf es.toList=as)(hl:as.length=rows.length)(sq:∀p∈rows.zip as,zg K p.2 p.1.2):KD K a rows as:=by refine⟨hl,⟨d,_,es,ep,c,⟨rfl,rfl,rfl⟩,rfl,?_⟩,sq⟩;have h:=CM b;rw[rf,List.zip_map_left,List.map_map]at h;exact h
theorem cN{r:Str×List V}{b:Addr}{rows:List (Str×List V)}{as:List Addr}(h:zg K b r.2)(t:∀p∈rows.zip as,zg K p.2 p.1.2):∀p∈(r::rows).zip (b::as),zg K p.2 p.1.2:=λp a=>by
 rcases List.mem_cons.mp a with rfl|a;·exact h
 ·exact t p a
theorem XU:∀p∈([]:List (Str×List V)).zip ([]:List Addr),zg K p.2 p.1.2:=λp a=>by simp at a
noncomputable def jB:List DictEntry->List (Str×Int)->Bool|[],[]=>true|e::es,(k,i)::a=>(match e.key,e.val with| .str x _, .int j _=>decide (x=k)&&decide (j=i)|_,_=>false)&&jB es a|_,_=>false
theorem xX:∀{es:List DictEntry}{a:List (Str×Int)},jB es a=true->PyProof.Rows.KTD.Rows RelV es (a.map λp=>(p.1,V.int p.2))
 |[],[],_=> .nil
 |[],_::_,h=>by simp[jB]at h
 |_::_,[],h=>by simp[jB]at h
 |e::es,(k,i)::a,h=>by
  obtain⟨d,c,val⟩:=e;rw[jB,cW]at h;cases c with
   |str x t=>
    cases val with
     |int b u=>
      have h1:x=k/\b=i:=by simpa using h.1
      obtain⟨rfl,rfl⟩:=h1;exact .cons rfl ⟨u,rfl⟩ (xX h.2)
     |_=>simp at h
   |_=>simp at h
theorem SN{a:Addr}{es:Array DictEntry}{ep:Nat}{rows:List (Str×Int)}(d:(a==sysModules)=false)(c:K.lookup a=some ⟨.type "dict",none, .dict es ep,#[]⟩)(b:jB es.toList rows=true):mf K a (rows.map λp=>(p.1,V.int p.2)):=⟨d,_,es,ep,c,⟨rfl,rfl,rfl⟩,rfl,xX b⟩
end L3
end
section
namespace L3
open PySem PySem.Spec PyProof.Rows L2
structure MadeX(h h':Heap)(e C:Addr)(hh:Option Value):Prop where
 keeps:∀b o,h.get? b=some o->h'.get? b=some o
 new:h.get? e=none
 there:∃oe vs t c,h'.get? e=some oe/\oe.cls= .ref C/\oe.data= .fields vs/\vs[0]?=some (.ref t)/\vs[1]?=some .none/\vs[2]?=some c/\(hh=none->c= .none)
section
variable{prog:Program}{w:World}{A:Around}{E:Value->Shared->Prop}{s:Shared}
theorem MZ{g:Type}{Q:g->Shared->Prop}{h₀:Heap}{e C:Addr}{vs:List Value}(hb:HB h₀ A)(hm:Heap.MadeExcOf h₀ s.heap e (.ref C) vs)(f:∀h',MadeX h₀ h' e C A.handled->E (.ref e) {s with heap:=h'}):wpAny (model prog w) A (raiseNew (.ref e):Sem g) Q E s:=by
 obtain⟨t,d,_,_⟩:=hm.there;simp only[raiseNew];refine az (wpAny_handled ?_);rcases hb with hb|⟨a,oe,ws,hb,e1,e2,e3⟩;·rw[hb];refine az (bA (wpAny_throw (f s.heap ⟨hm.keeps,hm.new,_,_,t,_,d,rfl,rfl,rfl,rfl,rfl,λ_=>rfl⟩)))
 ·rw[hb];have ne:a≠e:=λz=>by rw[z,hm.new]at e1;cases e1
  dsimp only;rw[if_pos (by simpa using ne)];refine az (kf (ES (hm.keeps _ _ e1) e2 e3 ?_));refine az ?_;show wpAny (model prog w) A (setField (.ref e) 2 (.ref a)) _ _ _;refine wpAny_setField d rfl (by simp) (wpAny_throw (f _ ⟨λb o c=>?_,hm.new,_,_,t, .ref a,Cc _ d (Obj.isFreed_of_fields (Obj.data_mapFields rfl _)),Obj.cls_mapFields _ _,Obj.data_mapFields rfl _,by simp,by simp,by simp,λz=>by rw[hb]at z;cases z⟩));rw[k9 _ _ λz=>by rw[<-z,hm.new]at c;cases c];exact hm.keeps b o c
end
def oV(K:PySem.W.Frag)(C:Addr):Prop:=∃a newId b,ExcBaseFacts "ValueError" newId b a/\PySem.W.excIn K C a newId=true
theorem xZ{K:PySem.W.Frag}{h:Heap}{C:Addr}{i:List Value}{newId:String}(X:K.In h)(q:PySem.W.excIn K C i newId=true):∃bm N e f bs p g sub b c d k0 k1 k2 k3 a o,h.get? C=some (excClassObj e f C N bs bm p g sub b c d k0 k1 k2 k3 a newId)/\h.Ns N o/\o "__init__"=none/\OwnTail h i bm:=by
 unfold PySem.W.excIn at q;split at q
 ·rename_i d cd sl r;split at q
  ·rename_i t bm k0 k1 k2 k3 n a hm m;simp only[cW,beq_iff_eq,Bool.not_eq_true']at q;obtain⟨⟨⟨⟨⟨rfl,rfl⟩,j⟩,ht⟩,cj⟩,k⟩:=q;obtain⟨e,bs,v,ns,f,hd,g,sub,b,c,u⟩:=cd;dsimp only at hm j cj k;subst hm j;have s:sl=#[k0,k1,k2,k3,some (.builtin n),a]:=by obtain⟨l⟩:=sl;simp only at m;rw[m]
   subst s;exact⟨bm,ns,e,f,bs,hd,g,sub,b,c,d,k0,k1,k2,k3,a,_,X _ _ r, .of_isNs (PySem.W.isNs_of_in X cj),PySem.W.nsMap_none_of_in X cj k,PySem.W.tail_of_in X ht⟩
  ·cases q
 ·cases q
noncomputable def Zk(G:Hp->Prop)(t:TA):TS:=λD σ H=>t σ H λvs a=>vs.length<=100/\G a
theorem mB{X:Cx}{G:Hp->Prop}{x:Str}{C:Addr}{b:Expr}{t:TA}{np eU V:Pos}(A:oV X.K C)(hm:X.mg x=some (.ref C))(ha:PA X [b] t)(O:∀pins σ H s e h',Inv X pins σ H s->MadeX s.heap h' e C X.A.handled->G H->X.xe (.ref e) {s with heap:=h'})(hc:X.calm=true:=by rfl)(L:Gl X x:=by rfl)(E:(x==("__debug__":Str))=false:=by decide)(J:starEach [b] X.env=[(false,eval b X.env)]:=by rfl):PS X (.Raise (some (.Call (.Name x np) [b] [] eU)) none V) (Zk G t):=by
 intro pins s σ H D I h;obtain⟨Z,newId,F8,FB,q⟩:=A;have Q:wpAny (model X.prog X.w) X.A (eval (.Call (.Name x np) [b] [] eU) X.env) (λv a=>∃e t h₀ vs,v= .ref e/\X.K.In a.heap/\a.heap.get? e=some {cls:= .ref C,data:= .fields #[.ref t, .none, .none, .none, .bool false, .none]}/\HB h₀ X.A/\Heap.MadeExcOf h₀ a.heap e (.ref C) vs/\∀h',MadeX h₀ h' e C X.A.handled->X.xe (.ref e) {a with heap:=h'}) X.xe s:=by refine wpAny_Call_Name_kw (jw I L hm ?_ E);have m:=ha eU pins s σ H _ I h;rw[J]at m⊢;unfold callWith;refine az (kf (Calls.evalArgs_plain (b9 m λus s1⟨vs,n,i,r,hl,g⟩=>az (wpAny_standAt ?_))));obtain⟨bm,N,U,W,bs,F,Y,sub,o,p,u,k0,k1,k2,k3,P,R,c,j,k,T⟩:=xZ i.kK q;have hb:=i.hb hc;have M:=O pins σ n s1;have Ly:=i.kK;obtain⟨l,w,d,tk,os⟩:=s1;show wpAny _ _ (keeperOf (.ref C)>>=_) _ _ _;refine az (wpAny_keeperOf_exc c ?_);refine az (wpAny_call_exc_subT (hrest:=by rw[List.nil_append,<-r.length];exact dJ hl (by decide)) FB T c j k λh' e f=>az (kf (wpAny_point (bA ?_))));obtain⟨t,ht,_,_⟩:=f.there;exact⟨e,t,l,_,rfl,Ly.keeps f.keeps,ht,hb,f,λy S=>M e y i S g⟩
 rw[arm_exec_Raise];refine az (wpAny_standAt ?_);unfold raiseStmt;refine az (az (b9 Q λv a h₁=>az (wpAny_standAt (bA ?_))));obtain⟨e,t,h₀,vs,rfl,Ly,K,hb,f,z⟩:=h₁;obtain⟨bm,N,U,W,bs,F,Y,sub,o,p,u,k0,k1,k2,k3,P,R,c,j,k,T⟩:=xZ Ly q;have B:(Value.ref C::bm).contains (.type "BaseException")=true:=by rw[List.contains_cons,T.hasType FB.hasBase,Bool.or_true]
 obtain⟨l,w,d,tk,os⟩:=a;repeat(first|with_reducible refine wpAny_loadPart_at K ?_|with_reducible refine wpAny_loadPart_at c ?_|(with_reducible refine wpAny_isSubtype_exc c ?_;rw[B])|wp_step)
 exact MZ hb f z
def Ex(h:Heap)(a C:Addr)(T c:Value):Prop:=∃oe vs a0,h.get? a=some oe/\oe.cls= .ref C/\oe.data= .fields vs/\vs[0]?=some a0/\vs[1]?=some T/\vs[2]?=some c
def Tb(h:Heap)(T:Addr)(fl:Value):Prop:=∃a ts,h.get? T=some a/\a.data= .fields ts/\ts[3]?=some fl
structure Nf(fs:List Addr)(xs:List Addr)(h h':Heap):Prop where
 keep:∀b o,h.get? b=some o->b∉fs->b∉xs->h'.get? b=some o
 slot:∀b o,h.get? b=some o->b∈fs->b∉xs->∃sl,h'.get? b=some {o with slots:=sl}
section
variable{M:Model}{A:Around}{E:Value->Shared->Prop}{s:Shared}
theorem N_{base:Heap}{l:List Env}{b:Addr}{o:Obj}{vs:Array Value}(hl:s.heap.FunFrames base l)(e:s.heap.get? b=some o)(d:o.data= .fields vs):b∉jT l:=λhm=>by obtain⟨_,o',a,c⟩:=hl.mem hm;rw[e]at a;cases a;exact c vs d
theorem zM{base:Heap}{env:Env}{outer:List Env}{L a C:Addr}{head T c:Value}{q:Bool}{Q:Unit->Shared->Prop}(r:A.frames=some (env::outer))(hl:s.heap.FunFrames base (env::outer))(hf:env.frame=some L)(x:Ex s.heap a C T c)(h:∀h' d,Ex h' a C (.ref d) c->Tb h' d (rawInt L)->s.heap.get? d=none->d≠a->Nf (jT (env::outer)) [a] s.heap h'->Q () {s with heap:=h'}):wpAny M A (do let f<-frameOf env;let pl<-entryPlaceOf L q;let b<-EntryCells.newEntry head f .none (rawInt L) .none pl;setField (.ref a) 1 b) Q E s:=by
 obtain⟨oe,vs,a0,j,hc,hd,p,h1,h2⟩:=x;have t:a∉jT (env::outer):=N_ hl j hd;refine az (wpAny_frameOf_fun r hl hf λk1 g=>az (wpAny_entryPlaceOf λpl k=>?_));unfold EntryCells.newEntry newFields;refine az (wpAny_newObj_type ?_ (k.sizeOk5 _ _ _ _ _));have i:k1.get? a=some oe:=(g.2.1 a t).trans j;have sz:k1.objs.size=s.heap.objs.size:=g.1;have l:k1.objs.size≠a:=Nat.ne_of_gt (b_ i);refine wpAny_setField (cf _ i) hd (Array.getElem?_eq_some_iff.mp h1).1 (h _ k1.objs.size ?_ ?_ ?_ l ?_)
 ·refine⟨_,_,a0,Cc _ (cf _ i) (Obj.isFreed_of_fields (Obj.data_mapFields hd _)),(Obj.cls_mapFields _ _).trans hc,Obj.data_mapFields hd _,?_,?_,?_⟩;·rw[Array.getElem?_setIfInBounds_ne (by decide)];exact p
  ·have :=(Array.getElem?_eq_some_iff.mp h1).1;simp[this]
  ·rw[Array.getElem?_setIfInBounds_ne (by decide)];exact h2
 ·refine⟨_,_,(k9 _ _ (Ne.symm l)).trans (gj _ rfl),rfl,?_⟩;first|(simp;done)|(rcases k with rfl|⟨_,_,_,_,_,_,_,rfl⟩<;>simp)
 ·rw[sz];exact Heap.get?_none_of_le (bN _)
 ·refine⟨λb o e n m=>?_,λb o e n m=>?_⟩;·have e1:k1.get? b=some o:=(g.2.1 b n).trans e;rw[k9 _ _ λz=>m (by simp[z])];exact cf _ e1
  ·obtain⟨sl,e1⟩:=g.2.2 b o e;refine⟨sl,?_⟩;rw[k9 _ _ λz=>m (by simp[z])];exact cf _ e1
theorem G7{base:Heap}{env:Env}{outer:List Env}{L a C:Addr}{c:Value}{Q:Unit->Shared->Prop}(e:A.frames=some (env::outer))(hl:s.heap.FunFrames base (env::outer))(hf:env.frame=some L)(x:Ex s.heap a C .none c)(h:∀h' b,Ex h' a C (.ref b) c->Tb h' b (rawInt L)->s.heap.get? b=none->b≠a->Nf (jT (env::outer)) [a] s.heap h'->Q () {s with heap:=h'}):wpAny M A (noteFrame (.ref a) env) Q E s:=by obtain⟨oe,vs,a0,d,hc,hd,f,h1,h2⟩:=id x;unfold noteFrame;simp only[hf];refine az (fw d hd h1 ?_);rw[if_neg (by decide)];exact zM e hl hf x h
theorem Al{base:Heap}{env:Env}{outer:List Env}{L a C T:Addr}{c:Value}{Q:Unit->Shared->Prop}(t:A.frames=some (env::outer))(hl:s.heap.FunFrames base (env::outer))(hf:env.frame=some L)(x:Ex s.heap a C (.ref T) c)(y:Tb s.heap T .none)(r:T≠a)(h:∀h' d,Ex h' a C (.ref d) c->Tb h' d (rawInt L)->s.heap.get? d=none->d≠a->Nf (jT (env::outer)) [a,T] s.heap h'->Q () {s with heap:=h'}):wpAny M A (noteFrame (.ref a) env) Q E s:=by
 obtain⟨oe,vs,a0,k,hc,hd,p,h1,h2⟩:=id x;obtain⟨D,ts,g,dT,h3⟩:=y;unfold noteFrame;simp only[hf];refine az (fw k hd h1 ?_);rw[if_pos (show(Value.ref T !=Value.none)=true from by simp)];refine az (fw g dT h3 ?_);rw[if_neg (show¬((Value.none==rawInt L)=true)from by simp[rawInt])];refine az (wpAny_setField g dT (Array.getElem?_eq_some_iff.mp h3).1 ?_);have f:∀b,b≠T->(s.heap.update T (Obj.mapFields (·.setIfInBounds 3 Value.none))).get? b=s.heap.get? b:=λb hb=>k9 _ _ (Ne.symm hb);have u:∀b o,s.heap.get? b=some o->(∀vs,o.data≠ .fields vs)->b≠T:=λb o hb i q=>by rw[q,g]at hb;cases hb;exact i ts dT
 refine zM (s:={s with heap:=s.heap.update T (Obj.mapFields (·.setIfInBounds 3 Value.none))}) t (hl.of_keeps λb o hb i=>⟨o,(f b (u b o hb i)).trans hb,rfl⟩) hf ⟨oe,vs,a0,(f a (Ne.symm r)).trans k,hc,hd,p,h1,h2⟩ λh' d v w j B l=>h h' d v w ?_ B ⟨λb o e n m=>?_,λb o e n m=>?_⟩
 ·by_cases z:d=T;·rw[z]at j;have :=Cc (Obj.mapFields (·.setIfInBounds 3 Value.none)) g (Obj.isFreed_of_fields (Obj.data_mapFields dT _));rw[j]at this;cases this
  ·rw[<-f d z];exact j
 ·exact l.keep b o ((f b λz=>m (by simp[z])).trans e) n λz=>m (by simp at z;simp[z])
 ·exact l.slot b o ((f b λz=>m (by simp[z])).trans e) n λz=>m (by simp at z;simp[z])
theorem hG{a C T:Addr}{c fl:Value}{Q:Unit->Shared->Prop}(x:Ex s.heap a C (.ref T) c)(y:Tb s.heap T fl)(k:T≠a)(h:∀h',Ex h' a C (.ref T) c->Tb h' T .none->(∀b,b≠T->h'.get? b=s.heap.get? b)->Q () {s with heap:=h'}):wpAny M A (setFlight (.ref a) none) Q E s:=by obtain⟨oe,vs,a0,e,hc,hd,j,h1,h2⟩:=x;obtain⟨l,ts,d,dT,h3⟩:=y;have g:=(Array.getElem?_eq_some_iff.mp h3).1;unfold setFlight;refine az (fw e hd h1 ?_);rw[if_pos (show(Value.ref T !=Value.none)=true from by simp)];have i:∀b,b≠T->(s.heap.update T (Obj.mapFields (·.setIfInBounds 3 ((none:Option Addr).elim Value.none λf=>rawInt f)))).get? b=s.heap.get? b:=λb hb=>k9 _ _ (Ne.symm hb);exact wpAny_setField d dT g (h _ ⟨oe,vs,a0,(i a (Ne.symm k)).trans e,hc,hd,j,h1,h2⟩ ⟨_,_,Cc _ d (Obj.isFreed_of_fields (Obj.data_mapFields dT _)),Obj.data_mapFields dT _,by simp[g]⟩ i)
theorem De{base:Heap}{env:Env}{outer:List Env}{L a C:Addr}{c:Value}{Q:Unit->Shared->Prop}(k:A.frames=some (env::outer))(hl:s.heap.FunFrames base (env::outer))(hf:env.frame=some L)(x:Ex s.heap a C .none c)(h:∀h' d,Ex h' a C (.ref d) c->Tb h' d .none->s.heap.get? d=none->d≠a->Nf (jT (env::outer)) [a] s.heap h'->Q () {s with heap:=h'}):wpAny M A (leaving env (.ref a)) Q E s:=by unfold leaving;refine az (G7 k hl hf x λh1 T1 l r f g j=>hG (s:={s with heap:=h1}) l r g λh2 p t i=>h h2 T1 p t f g ?_);refine⟨λb o e n m=>(i b λz=>by rw[z,f]at e;cases e).trans (j.keep b o e n m),λb o e n m=>?_⟩;obtain⟨sl,q⟩:=j.slot b o e n m;exact⟨sl,(i b λz=>by rw[z,f]at e;cases e).trans q⟩
theorem F6{base:Heap}{env:Env}{outer:List Env}{L a C T:Addr}{c:Value}{Q:Unit->Shared->Prop}(l:A.frames=some (env::outer))(hl:s.heap.FunFrames base (env::outer))(hf:env.frame=some L)(x:Ex s.heap a C (.ref T) c)(y:Tb s.heap T .none)(k:T≠a)(h:∀h' d,Ex h' a C (.ref d) c->Tb h' d .none->s.heap.get? d=none->d≠a->Nf (jT (env::outer)) [a,T] s.heap h'->Q () {s with heap:=h'}):wpAny M A (leaving env (.ref a)) Q E s:=by unfold leaving;refine az (Al l hl hf x y k λh1 T1 p t f g j=>hG (s:={s with heap:=h1}) p t g λh2 r u i=>h h2 T1 r u f g ?_);refine⟨λb o e n m=>(i b λz=>by rw[z,f]at e;cases e).trans (j.keep b o e n m),λb o e n m=>?_⟩;obtain⟨sl,q⟩:=j.slot b o e n m;exact⟨sl,(i b λz=>by rw[z,f]at e;cases e).trans q⟩
end
theorem FU{P:Program}{w:World}{H:Hp}{h:Heap}{a:Addr}{o:HO}(x:cK P w H h a o):∃u,h.get? a=some u:=by
 cases o with
  |lst xs=>obtain⟨_,_,_,_,e⟩:=x;exact⟨_,e⟩
  |tup xs=>obtain⟨_,_,_,o,e,_⟩:=x;exact⟨_,e⟩
  |dK aF=>obtain⟨_,_,_,_,o,_,_,e,_⟩:=x;exact⟨_,e⟩
  |dT aF=>obtain⟨_,_,_,_,o,_,_,e,_⟩:=x;exact⟨_,e⟩
  |set S n=>obtain⟨o,_,_,_,e,_⟩:=x;exact⟨_,e⟩
  |ins C dx fs=>obtain⟨_,_,_,e,_⟩:=x;exact⟨_,e⟩
  |own y=>exact x
  |xd fs=>obtain⟨_,⟨_,_,_,e,_⟩,_⟩:=x;exact⟨_,e⟩
  |rng lo hi=>obtain⟨_,_,_,e⟩:=x;exact⟨_,e⟩
  |Fs ob u=>obtain⟨e,_⟩:=x;exact⟨_,e⟩
  |zf ps=>cases ps with|tab q ln cl=>rcases x with e|⟨c,e,_⟩<;>exact⟨_,e⟩|code q=>obtain⟨c,o,vs,t,e1,e2,_⟩:=x;cases e1;exact⟨_,e2⟩
  |met f y=>exact⟨_,show h.get? a=some _ from x⟩
  |ext φ=>obtain⟨_,e,_⟩:=x;exact e
theorem mq{P:Program}{w:World}{H:Hp}{h:Heap}{a:Addr}(x:jS P w H h)(e:h.get? a=none):H a=none:=by cases q:H a with|none=>rfl|some o=>obtain⟨u,z⟩:=FU (x a o q);rw[e]at z;cases z
theorem Nf.any{fs xs:List Addr}{h h':Heap}(p:Nf fs xs h h'){b:Addr}{o:Obj}(e:h.get? b=some o)(m:b∉xs):∃sl,h'.get? b=some {o with slots:=sl}:=by
 by_cases hb:b∈fs;·exact p.slot b o e hb m
 ·exact⟨o.slots,p.keep b o e hb m⟩
theorem Uo{P:Program}{w:World}{H:Hp}{h h':Heap}{fs xs:List Addr}(x:jS P w H h)(p:Nf fs xs h h')(c:∀b∈fs,H b=none)(nx:∀b∈xs,H b=none):jS P w H h':=λa o e=>by
 have st:∀b u,H b≠none->h.get? b=some u->h'.get? b=some u:=λb u n q=>p.keep b u q (λz=>n (c b z)) λz=>n (nx b z);refine(x a o e).xm (λb u hb q=>st b u ?_ q) (λ_ q=>q) λ_ _ q=>q;rcases hb with z|z;·rw[z,e];simp
 ·rw[z];simp
structure RY(X:Cx)(pins:List (Addr×Obj))(H:Hp)(b:Addr):Prop where
 un:H b=none
 new:X.cD.heap.get? b=none
 loc:b≠X.env.locals
 cel:∀x c,X.env.cells.lookup x=some c->c≠b
 pin:∀p∈X.pn++pins,p.1≠b
section
variable{X:Cx}{pins:List (Addr×Obj)}{σ:L2.St}{H H':Hp}{s s':Shared}{h':Heap}{a:Addr}
theorem nM(I:Inv X pins σ H s)(e:s.heap.get? a=none)(f:a∉X.ex)(hn:H' a=none):RY X pins H' a:=by
 refine⟨hn,?_,λz=>?_,λx c q z=>?_,λp d z=>?_⟩;·cases q:X.cD.heap.get? a with|none=>rfl|some o=>obtain⟨o',z⟩:=I.base.there a o q f;rw[e]at z;cases z
 ·obtain⟨m,⟨o,_,_,b,_⟩,_⟩:=I.loc;rw[<-z,e]at b;cases b
 ·obtain⟨v,o,b,_⟩:=I.cell x c q;rw[z,e]at b;cases b
 ·have :=(I.pin p d).1;rw[z,e]at this;cases this
theorem Inv.stp{ch:List Addr}(I:Inv X pins σ H s)(p:Nf (jT X.stack) ch s.heap h')(hc:∀b∈ch,RY X pins H b):Inv X pins σ H {s with heap:=h'}:=by
 have h:∀b o,X.cD.heap.get? b=some o->b∉ch:=λb o e z=>by rw[(hc b z).new]at e;cases e
 have w:∀b o,X.cD.heap.get? b=some o->b∉X.fs->b∉jT X.stack:=λb o e hb z=>by
  rcases List.mem_cons.mp (I.gK b z)with q|q;·have :=b_ e;rw[q]at this;exact absurd this (Nat.not_lt.mpr I.ok.above)
  ·exact hb q
 have cellK:∀x c,X.env.cells.lookup x=some c->∀v,s.heap.IsCell c v->h'.IsCell c v:=λx c e v⟨o,g,hd⟩=>by obtain⟨sl,q⟩:=p.any g λz=>(hc c z).cel x c e rfl;exact⟨_,q,hd⟩
 refine⟨I.ok,I.os,I.bare,⟨λb o e n hb f=>?_,λb o e n hb f=>?_,λb o e n f=>I.base.free b o e n f,λb o e f=>?_,I.base.yk,I.base.qR,I.base.qS⟩,?_,λx c e=>?_,I.free,I.fj,λq hq=>?_,Uo I.cj p I.A5 λb hb=>(hc b hb).un,I.len⟩;·exact p.keep b o (I.base.keep b o e n hb f) (w b o e hb) (h b o e)
 ·obtain⟨sl,e1⟩:=I.base.slot b o e n hb f;obtain⟨y,e2⟩:=p.any e1 (h b o e);exact⟨y,e2⟩
 ·obtain⟨o',e1⟩:=I.base.there b o e f;obtain⟨sl,e2⟩:=p.any e1 (h b o e);exact⟨_,e2⟩
 ·obtain⟨m,⟨o,es,ep,g,r⟩,hl⟩:=I.loc;obtain⟨sl,t⟩:=p.any g λz=>(hc _ z).loc rfl;refine⟨m,⟨_,es,ep,t,r⟩,λi x v e1 e2 e3=>?_⟩;obtain⟨u,r,l⟩:=hl i x v e1 e2 e3;refine⟨u,r,?_⟩;rcases l with l|⟨k,c,e,z⟩;·exact .inl l
  ·exact .inr ⟨k,c,e,cellK x c e _ z⟩
 ·obtain⟨v,z⟩:=I.cell x c e;exact⟨v,cellK x c e v z⟩
 ·obtain⟨e,n,ne,j,d⟩:=I.pin q hq;exact⟨p.keep q.1 q.2 e (λz=>(List.mem_cons.mp (I.gK q.1 z)).elim ne j) λz=>(hc q.1 z).pin q hq rfl,n,ne,j,d⟩
end
structure S9(X:Cx)(pins:List (Addr×Obj))(H:Hp)(s:Shared)(a C T:Addr)(c fl:Value):Prop where
 ex:Ex s.heap a C (.ref T) c
 tb:Tb s.heap T fl
 ne:T≠a
 fa:RY X pins H a
 fT:RY X pins H T
noncomputable def f9(P:Program)(w:World):oX:=λhh outer H s E e s'=>∃(a C T:Addr)(c:Value)(H':Hp),e= .ref a/\s'.os=s.os/\AllBare s'.gens/\Un (jT outer) [] H H' s.heap s'.heap/\jS P w H' s'.heap/\Ex s'.heap a C (.ref T) c/\(hh=none->c= .none)/\Tb s'.heap T .none/\T≠a/\H' a=none/\H' T=none/\s.heap.get? a=none/\s.heap.get? T=none/\E (.ref C) none H'
section
variable{X:Cx}{pins:List (Addr×Obj)}{σ:L2.St}{H:Hp}{s s':Shared}{E:XK}{e:Value}{hh:Option Value}
theorem Qu(I:Inv X pins σ H s)(d:X.ex=[])(h:f9 X.prog X.w hh X.stack H s E e s'):∃a C T c H',e= .ref a/\Inv X pins σ H' s'/\S9 X pins H' s' a C T c .none/\(hh=none->c= .none)/\E (.ref C) none H':=by obtain⟨a,C,T,c,H',rfl,os,bare,un,cj,ex,hc,tb,ne,g,f,fa,fT,q⟩:=h;refine⟨a,C,T,c,H',rfl,I.Py os un cj bare (λb z=>absurd z (by simp)),⟨ex,tb,ne,nM I fa (by rw[d];simp) g,nM I fT (by rw[d];simp) f⟩,hc,q⟩
end
section
variable{P:Program}{w:World}{K:PySem.W.Frag}{mg:Str->Option Value}{base:Heap}{N:List Str}{qual:Str}{sc:Scope}{f:Addr}{cd:Value}{A:Around}{outer:List Env}{cD:Shared}{H₀:Hp}{E:XK}
theorem N0{σ:L2.St}{H:Hp}{s:Shared}{pins:List (Addr×Obj)}{a C T:Addr}{c:Value}{h':Heap}{ch:List Addr}(I:Inv (fE (f9 P w) P w K mg base N qual sc f cd A outer cD H₀ E) pins σ H s)(p:Nf (jT (fE (f9 P w) P w K mg base N qual sc f cd A outer cD H₀ E).stack) ch s.heap h')(e:∀b∈ch,RY (fE (f9 P w) P w K mg base N qual sc f cd A outer cD H₀ E) pins H b)(fa:RY (fE (f9 P w) P w K mg base N qual sc f cd A outer cD H₀ E) pins H a)(ex:Ex h' a C (.ref T) c)(tb:Tb h' T .none)(d:s.heap.get? T=none)(ne:T≠a)(hc:A.handled=none->c= .none)(q:E (.ref C) none H):f9 P w A.handled outer H₀ cD E (.ref a) {s with heap:=h'}:=by have J:=Inv.stp I p e;exact⟨a,C,T,c,H,rfl,J.os,J.bare,J.base,J.cj,ex,hc,tb,ne,fa.un,mq I.cj d,fa.new,(nM (H':=H) I d (by show T∉[];simp) (mq I.cj d)).new,q⟩
theorem aai{σ:L2.St}{H:Hp}{s:Shared}{pins:List (Addr×Obj)}{a C T:Addr}{c:Value}(I:Inv (fE (f9 P w) P w K mg base N qual sc f cd A outer cD H₀ E) pins σ H s)(F:S9 (fE (f9 P w) P w K mg base N qual sc f cd A outer cD H₀ E) pins H s a C T c .none)(hc:A.handled=none->c= .none)(q:E (.ref C) none H):(fE (f9 P w) P w K mg base N qual sc f cd A outer cD H₀ E).xe (.ref a) s:=by
 refine F6 I.ok.frames I.stack rfl F.ex F.tb F.ne λh' i d e g h p=>?_;exact N0 (ch:=[a,T]) I p (λb hb=>by
  rcases List.mem_cons.mp hb with z|z;·rw[z];exact F.fa
  ·rw[List.mem_singleton.mp z];exact F.fT) F.fa d e g h hc q
theorem dG{N:List Str}:Passes (f9 P w) (fE (f9 P w) P w K mg base N qual sc f cd A outer cD H₀ E) E:=λpins σ H s e s' I h=>by obtain⟨a,C,T,c,H',rfl,J,F,hc,q⟩:=Qu I rfl h;exact aai J F hc q
theorem uE{σ:L2.St}{H:Hp}{s:Shared}{pins:List (Addr×Obj)}{a C:Addr}{h':Heap}(I:Inv (fE (f9 P w) P w K mg base N qual sc f cd A outer cD H₀ E) pins σ H s)(m:MadeX s.heap h' a C A.handled)(q:E (.ref C) none H):(fE (f9 P w) P w K mg base N qual sc f cd A outer cD H₀ E).xe (.ref a) {s with heap:=h'}:=by have J:Inv (fE (f9 P w) P w K mg base N qual sc f cd A outer cD H₀ E) pins σ H {s with heap:=h'}:=I.kept (t':=s.toks) m.keeps;obtain⟨oe,vs,t,c,e1,e2,e3,d,e,g,h⟩:=m.there;have fa:RY (fE (f9 P w) P w K mg base N qual sc f cd A outer cD H₀ E) pins H a:=nM I m.new (by show a∉[];simp) (mq I.cj m.new);refine De J.ok.frames J.stack rfl ⟨oe,vs, .ref t,e1,e2,e3,d,e,g⟩ λo n i j k l p=>?_;exact N0 (ch:=[a]) J p (λb hb=>by rw[List.mem_singleton.mp hb];exact fa) fa i j k l h q
theorem WI{N:List Str}:PassesOwn (model P w) (fE (f9 P w) P w K mg base N qual sc f cd A outer cD H₀ E).A (fE (f9 P w) P w K mg base N qual sc f cd A outer cD H₀ E).env (fE (f9 P w) P w K mg base N qual sc f cd A outer cD H₀ E).xe:=PassesOwn.leaving
end
theorem Df.R_{P:Program}{w:World}{K:PySem.W.Frag}{mg:Str->Option Value}{x:Str}{st:Stmt}{N ps:List Str}{k:Nat}{sp:Sp}(D:Df K mg x st ps)(S:aT N ps (ar st))(len:∀vs H Q E,sp vs H Q E->vs.length=ps.length)(a:∀(base:Heap)(f:Addr)(cZ:Value)(A:Around)(outer:List Env)(s:Shared)(H:Hp)(vs:List V)(Q:VK)(E:XK),da k (A.deeper (envOfC x (ar st) s.heap.objs.size f cZ))->sp vs H Q E->∃t,iO (fE (f9 P w) P w K mg base N x (ar st) f cZ A outer s H E) (cU st) t/\t {nx:=λ_ H'=>Q .a_ H',rt:=Q} (start N vs) H):bx P w K mg (f9 P w) x (k+1) ps sp:=by obtain⟨f,fd,F,m,b⟩:=D;refine⟨f,fd,λbase=>?_,m,F.kp,b⟩;obtain⟨oc,od,kV,doc,pm,an,cZ,ct,DA,rfl,g,c⟩:=F.ex;exact HN g c S len λA outer s H vs Q E d e=>a base f cZ A outer s H vs Q E d e
noncomputable abbrev zy(X:Cx)(a:Addr)(oe:Obj)(b:Bool):Cx:={X with A:=X.A.mark (some (.ref a)),calm:=b,pn:=(a,oe)::X.pn,xe:=λ_ _=>False}
section
variable{X:Cx}{pins:List (Addr×Obj)}{σ:L2.St}{H:Hp}{s:Shared}{a:Addr}{oe:Obj}{cm:Bool}
theorem abp(ok:X.Ok)(hc:cm=true->∃vs,oe.data= .fields vs/\vs[2]?=some .none):(zy X a oe cm).Ok:=⟨ok.mod,ok.kind,ok.glob,ok.blt,ok.above,ok.inj,ok.has,ok.Ut,λh=>let⟨vs,e1,e2⟩:=hc h; .inr ⟨a,oe,vs,rfl, .inr eD,e1,e2⟩,ok.frames,ok.YT,ok.Yg,ok.bs,ok.Ft,ok.zi,ok.Ct,ok.jF,ok.R3⟩
theorem U7(I:Inv X pins σ H s){vs:Array Value}(e:s.heap.get? a=some oe)(d:oe.data= .fields vs)(F:RY X pins H a)(hc:cm=true->∃vs,oe.data= .fields vs/\vs[2]?=some .none):Inv (zy X a oe cm) pins σ H s:=by
 refine⟨abp I.ok hc,I.os,I.bare,I.base,I.loc,I.cell,I.free,I.fj,λp b=>?_,I.cj,I.len⟩;rcases List.mem_cons.mp (show p∈(a,oe)::(X.pn++pins)from b)with z|z;·rw[z];exact⟨e,F.un,F.loc,N_ I.jF e d,λv q=>by rw[d]at q;cases q⟩
 ·exact I.pin p z
theorem ip(ok:X.Ok)(I:Inv (zy X a oe cm) pins σ H s):Inv X pins σ H s:=⟨ok,I.os,I.bare,I.base,I.loc,I.cell,I.free,I.fj,λp b=>I.pin p (eA _ b),I.cj,I.len⟩
theorem ac0(ok:X.Ok){D:Ends}{f:Flow}(h:SP (zy X a oe cm) pins D f s):SP X pins D f s:=by cases f with|next=>obtain⟨b,H',I,q⟩:=h;exact⟨b,H',ip ok I,q⟩|brk=>obtain⟨b,H',I,q⟩:=h;exact⟨b,H',ip ok I,q⟩|cont=>obtain⟨b,H',I,q⟩:=h;exact⟨b,H',ip ok I,q⟩|ret u=>obtain⟨v,b,H',I,r,q⟩:=h;exact⟨v,b,H',ip ok I,r,q⟩
theorem T6{m:Str->Option Value}{i:Nat}{n:Str}{v:Option Value}{h':Heap}{t':Nat}(I:Inv X pins σ H s)(A:X.N.Nodup)(hi:X.N[i]?=some n)(f:X.env.scope.names.lookup n=some .local)(hn:s.heap.Ns X.env.locals m)(hl:∀(i:Nat)(x:Str)(v:V),X.N[i]?=some x->σ[i]?=some (some v)->Vis X.env.scope x->∃u,RelV v u/\Look X.env s.heap m x u)(w:h'.Ns X.env.locals (λx=>if x=n then v else m x))(D:Heap.SameBut X.env.locals s.heap h'):Inv X pins (σ.set i none) H {s with heap:=h',toks:=t'}:=by
 have g:∀b o,b≠X.env.locals->s.heap.get? b=some o->h'.get? b=some o:=λb o n e=>(D.2 b n).trans e;have h:∀b o,X.cD.heap.get? b=some o->b≠X.env.locals:=λb o e=>eN (gP (b_ e) I.ok.above);have cellK:∀x c,X.env.cells.lookup x=some c->∀v,s.heap.IsCell c v->h'.IsCell c v:=λx c e v⟨o,B,hd⟩=>⟨o,g c o (I.To x c e) B,hd⟩;obtain⟨L,_,_,K,_⟩:=id w;refine⟨I.ok,I.os,I.bare,⟨λb o e n hb f=>g b o (h b o e) (I.base.keep b o e n hb f),λb o e n hb f=>?_,I.base.free,λb o e f=>?_,I.base.yk,I.base.qR,I.base.qS⟩,⟨_,w,λj y J e1 e2 e3=>?_⟩,λx c e=>?_,I.free,I.fj,λp C=>?_,λb u e=>?_,by simpa using I.len⟩;·obtain⟨sl,q⟩:=I.base.slot b o e n hb f;exact⟨sl,g b _ (h b o e) q⟩
 ·obtain⟨o',q⟩:=I.base.there b o e f;exact⟨o',g b _ (h b o e) q⟩
 ·have t:j≠i:=λz=>by rw[z]at e2;rw[List.getElem?_set_self']at e2;cases q:σ[i]?<;>rw[q]at e2<;>simp at e2
  rw[List.getElem?_set_ne (Ne.symm t)]at e2;obtain⟨u,r,l⟩:=hl j y J e1 e2 e3;have E:y≠n:=λz=>t (xO A (z▸e1) hi);refine⟨u,r,?_⟩;rcases l with⟨k,l⟩|⟨k,c,e,z⟩;·exact .inl ⟨k,by show(if y=n then v else m y)=some u;rw[if_neg E];exact l⟩
  ·exact .inr ⟨k,c,e,cellK y c e _ z⟩
 ·obtain⟨v,z⟩:=I.cell x c e;exact⟨v,cellK x c e v z⟩
 ·obtain⟨e,n,ne,G,d⟩:=I.pin p C;exact⟨g p.1 p.2 ne e,n,ne,G,d⟩
 ·have F:∀c,H c≠none->c≠X.env.locals:=λc n z=>n (by rw[z];exact I.free);refine(I.cj b u e).xm (λc o hc q=>g c o (F c ?_) q) (λ_ q=>q) λ_ _ q=>q;rcases hc with z|z;·rw[z,e];simp
  ·rw[z];simp
theorem kS{M:Model}{A:Around}{E:Value->Shared->Prop}{Q:Unit->Shared->Prop}{i:Nat}{n:Str}{f:Pos}(I:Inv X pins σ H s)(c:X.N.Nodup)(hi:X.N[i]?=some n)(b:X.env.scope.names.lookup n=some .local)(h:∀s',Inv X pins (σ.set i none) H s'->Q () s'):wpAny M A (do bindName X.env n .none;unbindBehindTheSuite X.env n f) Q E s:=by obtain⟨m,hn,hl⟩:=id I.loc;refine wpAny_nameGoes_keeps b hn (by rw[I.ok.kind];rfl) λh' v d e=>h _ (T6 I c hi b hn hl d e)
end
theorem EN{K:PySem.W.Frag}{prog:Program}{w:World}{A:Around}{E:Value->Shared->Prop}{Q:Bool->Shared->Prop}{s:Shared}{a C c:Addr}{oe:Obj}{b:Bool}(X:K.In s.heap)(k:s.heap.get? a=some oe)(hc:oe.cls= .ref C)(i:oV K c)(e:PySem.W.subIn K (.ref C) (.ref c)=some b)(q:Q b s):wpAny (model prog w) A (excMatches (.ref a) (.ref c)) Q E s:=by
 obtain⟨n,newId,y,FB,l⟩:=i;obtain⟨bm,N,D,F,bs,u,G,sub,m,o,p,k0,k1,k2,k3,z,B,h,r,v,T⟩:=xZ X l;have j:(Value.ref c::bm).contains (.type "BaseException")=true:=by rw[List.contains_cons,T.hasType FB.hasBase,Bool.or_true]
 have f:=tc_notTuple;have L:=PySem.W.looks_subIn (M:=model prog w) X e;obtain⟨x,g,d,t,os⟩:=s;unfold excMatches;repeat(first|with_reducible refine az (L.at ?_)|(with_reducible refine wpAny_loadPart_at k ?_;rw[hc])|with_reducible refine wpAny_loadPart_at h ?_|(with_reducible refine wpAny_isSubtype_exc h ?_;rw[j])|wp_step)
 cases b<;>(wp_walk;exact q)
noncomputable abbrev TH:=Addr->Addr->TS
def PH(X:Cx)(b:List ExceptHandler)(t:TH):Prop:=∀(pins:List (Addr×Obj))(s:Shared)(σ:L2.St)(H:Hp)(D:Ends)(a C T:Addr)(c:Value),Inv X pins σ H s->S9 X pins H s a C T c .none->(X.A.handled=none->c= .none)->t C a D σ H->wpAny (model X.prog X.w) X.A (handleBy (.ref a) X.env b) (SP X pins D) X.xe s
noncomputable def aew:TH:=λ_ _ _ _ _=>False
theorem Gu{X:Cx}:PH X [] aew:=λ_ _ _ _ _ _ _ _ _ _ _ _ h=>h.elim
def Cm(X:Cx)(a:Bool):Prop:=a=true->X.A.handled=none
section
variable{X:Cx}{cm:Bool}
theorem aaf{pins:List (Addr×Obj)}{s:Shared}{H:Hp}{a C T:Addr}{c fl:Value}(F:S9 X pins H s a C T c fl)(hc:X.A.handled=none->c= .none)(hm:Cm X cm):∃oe vs,s.heap.get? a=some oe/\oe.cls= .ref C/\oe.data= .fields vs/\(cm=true->∃vs,oe.data= .fields vs/\vs[2]?=some .none):=by obtain⟨oe,vs,a0,e1,e2,e3,d,e,b⟩:=F.ex;exact⟨oe,vs,e1,e2,e3,λz=>⟨vs,e3,by rw[b,hc (hm z)]⟩⟩
theorem qk{x:Str}{d:Addr}{np D:Pos}{pins:List (Addr×Obj)}{s:Shared}{σ:L2.St}{H:Hp}{a C T:Addr}{c:Value}{b:Bool}{R:Result->Shared->Prop}(u:oV X.K d)(hm:X.mg x=some (.ref d))(A:Gl X x)(y:(x==("__debug__":Str))=false)(I:Inv X pins σ H s)(F:S9 X pins H s a C T c .none)(e:PySem.W.subIn X.K (.ref C) (.ref d)=some b)(h:∀s1,Inv X pins σ H s1->S9 X pins H s1 a C T c .none->R (.ok (if b then .brk else .next)) s1):codeAny (model X.prog X.w) (X.A.mark (some (.ref a))) (.handlers (.ref a) [.ExceptHandler (some (.Name x np)) none [] D] X.env) R s:=by
 obtain⟨oe,vs,a0,e1,e2,e3,l,m,n⟩:=F.ex;obtain⟨g,ts,f1,f2,o⟩:=F.tb;have i:Inv X ((T,g)::pins) σ H s:=I.tj λp f=>by
  rcases List.mem_cons.mp f with z|z;·rw[z];exact⟨f1,F.fT.un,F.fT.loc,N_ I.jF f1 f2,λv q=>by rw[f2]at q;cases q⟩
  ·exact I.pin p (jR _ z)
 have t:RY X ((T,g)::pins) H a:=⟨F.fa.un,F.fa.new,F.fa.loc,F.fa.cel,λp f=>by
  rcases List.mem_append.mp f with z|z;·exact F.fa.pin p (oU _ z)
  ·rcases List.mem_cons.mp z with z|z;·rw[z];exact F.ne
   ·exact F.fa.pin p (jR _ z)⟩;have k:Inv (zy X a oe false) ((T,g)::pins) σ H s:=U7 i e1 e3 t (λz=>nomatch z);refine codeAny_handlers_test (gg (cM (X:=zy X a oe false) (a:=d) hm A y _ _ _ _ (λv H'=>v= .ref d/\H'=H) k ⟨rfl,rfl⟩) (λv s1 B=>?_) λ_ _ z=>z.elim);obtain⟨w,H',J,r,rfl,rfl⟩:=B;cases(show v=Value.ref d from r);have k1:=(J.pin (a,oe) (by simp)).1;have k2:=(J.pin (T,g) (by simp)).1;have j:Inv X pins σ H' s1:=(ip I.ok J).tj λp f=>i.ok|>λ_=>(ip I.ok J).pin p (jR _ (eA _ f));exact EN j.kK k1 e2 u e (h s1 j ⟨⟨oe,vs,a0,k1,e2,e3,l,m,n⟩,⟨g,ts,k2,f2,o⟩,F.ne,F.fa,F.fT⟩)
theorem DH{pins:List (Addr×Obj)}{s:Shared}{σ:L2.St}{H:Hp}{a C T:Addr}{c fl:Value}{A:Around}{E:Value->Shared->Prop}{Q:Unit->Shared->Prop}(I:Inv X pins σ H s)(F:S9 X pins H s a C T c fl)(hc:X.A.handled=none->c= .none)(hm:Cm X cm)(h:∀s1 oe,Inv (zy X a oe cm) pins σ H s1->oe.cls= .ref C->Q () s1):wpAny (model X.prog X.w) A (setFlight (.ref a) none) Q E s:=by
 refine hG F.ex F.tb F.ne λh' i j d=>?_;have p:Nf (jT X.stack) [T] s.heap h':=⟨λb o e _ m=>(d b (by simpa using m)).trans e,λb o e _ m=>⟨o.slots,(d b (by simpa using m)).trans e⟩⟩;have J:=Inv.stp I p λb hb=>by rw[List.mem_singleton.mp hb];exact F.fT
 have f:S9 X pins H {s with heap:=h'} a C T c .none:=⟨i,j,F.ne,F.fa,F.fT⟩;obtain⟨oe,vs,e1,e2,e3,g⟩:=aaf f hc hm;exact h _ oe (U7 J e1 e3 F.fa g) e2
noncomputable def hCl(K:PySem.W.Frag)(c:Addr)(ts d:TH):TH:=λC a D σ H=>∃b,PySem.W.subIn K (.ref C) (.ref c)=some b/\if b=true then ts C a D σ H else d C a D σ H
theorem HM{x:Str}{d:Addr}{np v:Pos}{j:Stmt}{k:List Stmt}{rest:List ExceptHandler}{ts g:TH}(cm:Bool)(n:oV X.K d)(hm:X.mg x=some (.ref d))(r:Gl X x)(o:Cm X cm)(u:∀(a C:Addr)(oe:Obj),oe.cls= .ref C->iO (zy X a oe cm) (j::k) (ts C a))(t:PH X rest g)(p:(x==("__debug__":Str))=false:=by decide):PH X (.ExceptHandler (some (.Name x np)) none (j::k) v::rest) (hCl X.K d ts g):=by
 intro pins s σ H D a C T c I F hc h;obtain⟨b,e,h⟩:=h;refine wpAny_handleBy_cons (qk n hm r p I F e λs1 J i=>?_) (by intro q;cases q);cases b with
  |false=>
   have h:g C a D σ H:=by simpa using h
   exact t pins s1 σ H D a C T c J i hc h
  |true=>
   have h:ts C a D σ H:=by simpa using h
   refine codeAny_handlers_suite (DH J i hc o λs2 oe l m=>?_);exact gg (u a C oe m pins s2 σ H D l h) (λf w q=>ac0 I.ok q) λ_ _ z=>z.elim
noncomputable def D1(i:Nat)(D:Ends):Ends:={nx:=λσ H=>D.nx (σ.set i none) H,rt:=D.rt,bk:=λσ H=>D.bk (σ.set i none) H,ct:=λσ H=>D.ct (σ.set i none) H}
noncomputable def hAs(K:PySem.W.Frag)(i:Nat)(c:Addr)(ts d:TH):TH:=λC a D σ H=>∃b,PySem.W.subIn K (.ref C) (.ref c)=some b/\if b=true then ts C a (D1 i D) (σ.set i (some (.ref a))) H else d C a D σ H
theorem ac9{x y:Str}{i:Nat}{k:Addr}{np P:Pos}{p:Stmt}{t:List Stmt}{rest:List ExceptHandler}{ts m:TH}(cm:Bool)(j:X.N.Nodup)(hi:X.N[i]?=some y)(g:X.env.scope.names.lookup y=some .local)(E:oV X.K k)(hm:X.mg x=some (.ref k))(M:Gl X x)(G:Cm X cm)(O:∀(a C:Addr)(oe:Obj),oe.cls= .ref C->iO (zy X a oe cm) (p::t) (ts C a))(N:PH X rest m)(K:(x==("__debug__":Str))=false:=by decide):PH X (.ExceptHandler (some (.Name x np)) (some y) (p::t) P::rest) (hAs X.K i k ts m):=by
 intro pins s σ H D a C T c I F hc h;obtain⟨b,e,h⟩:=h;refine wpAny_handleBy_cons (qk E hm M K I F e λs1 J o=>?_) (by intro q;cases q);cases b with
  |false=>
   have h:m C a D σ H:=by simpa using h
   exact N pins s1 σ H D a C T c J o hc h
  |true=>
   have h:ts C a (D1 i D) (σ.set i (some (.ref a))) H:=by simpa using h
   refine codeAny_handlers_suite_as (DH J o hc G λs2 oe w B=>?_);refine iT (X:=zy X a oe cm) (v:= .ref a) w j hi (.inl g) rfl (λQ A=>?_) (.inr g);refine gg (O a C oe B pins Q _ H (D1 i D) A h) (λf R q=>?_) λ_ _ z=>z.elim;cases f with|next=>obtain⟨n,H',d,q⟩:=q;exact kS (ip I.ok d) j hi g λl L=>⟨_,H',L,q⟩|brk=>obtain⟨n,H',d,q⟩:=q;exact kS (ip I.ok d) j hi g λl L=>⟨_,H',L,q⟩|cont=>obtain⟨n,H',d,q⟩:=q;exact kS (ip I.ok d) j hi g λl L=>⟨_,H',L,q⟩|ret u=>obtain⟨v,n,H',d,r,q⟩:=q;exact kS (ip I.ok d) j hi g λl L=>⟨v,_,H',L,r,q⟩
end
noncomputable abbrev TB:=Ends->(Addr->L2.St->Hp->Prop)->L2.St->Hp->Prop
def BX(X:Cx)(pins:List (Addr×Obj))(G:Addr->L2.St->Hp->Prop)(e:Value)(s':Shared):Prop:=∃(a C T:Addr)(c:Value)(b:L2.St)(H':Hp),e= .ref a/\Inv X pins b H' s'/\S9 X pins H' s' a C T c .none/\(X.A.handled=none->c= .none)/\G C b H'
def PB(X:Cx)(body:List Stmt)(t:TB):Prop:=∀(pins:List (Addr×Obj))(s:Shared)(σ:L2.St)(H:Hp)(D:Ends)(G:Addr->L2.St->Hp->Prop),Inv X pins σ H s->t D G σ H->wpAny (model X.prog X.w) X.A (execs body X.env) (SP X pins D) (BX X pins G) s
noncomputable def aen(tb:TB)(th:TH):TS:=λD σ H=>tb D (λC b H'=>∀a,H' a=none->th C a D b H') σ H
theorem Hk{X:Cx}{body:List Stmt}{h₀:ExceptHandler}{j:List ExceptHandler}{tb:TB}{th:TH}{x:Pos}(t:X.ex=[])(d:X.stack=X.env::X.outer)(hf:X.env.frame=some X.env.locals)(hb:PB X body tb)(hh:PH X (h₀::j) th):PS X (.Try body (h₀::j) [] [] x) (aen tb th):=by
 intro pins s σ H D I h;refine wpAny_Try_except (gg (hb pins s σ H D _ I h) (λf s1 q=>?_) λe s1 q=>?_);·cases f with|next=>exact(by first|exact wpAny_execs_nil q|(rw[execs];exact bA q)|exact bA q)|brk=>exact q|cont=>exact q|ret u=>exact q
 ·obtain⟨a,C,T,c,g,H',rfl,J,F,hc,q⟩:=q;refine Al (by rw[J.ok.frames,d]) (d▸J.stack) hf F.ex F.tb F.ne λh1 T1 y B l k v=>hG (s:={s1 with heap:=h1}) y B k λh2 A E n=>?_;have p:Inv X pins g H' {s1 with heap:=h1}:=Inv.stp J (d▸v) λb hb=>by
   rcases List.mem_cons.mp hb with z|z;·rw[z];exact F.fa
   ·rw[List.mem_singleton.mp z];exact F.fT
  have i:RY X pins H' T1:=nM J l (by rw[t];simp) (mq J.cj l);have w:Nf (jT X.stack) [T1] h1 h2:=⟨λb o e _ m=>(n b (by simpa using m)).trans e,λb o e _ m=>⟨o.slots,(n b (by simpa using m)).trans e⟩⟩;have r:Inv X pins g H' {s1 with heap:=h2}:=Inv.stp (s:={s1 with heap:=h1}) p w λb hb=>by rw[List.mem_singleton.mp hb];exact i
  exact hh pins _ g H' D a C T1 c r ⟨A,E,k,F.fa,i⟩ hc (q a F.fa.un)
theorem QF{X:Cx}{x:Str}{k:Nat}{ps:List Str}{sp:Sp}{e:Expr}{es:List Expr}{t:TA}{p g:Pos}{pins:List (Addr×Obj)}{s:Shared}{σ:L2.St}{H:Hp}{Q:VK}{G:Addr->L2.St->Hp->Prop}(F:bx X.prog X.w X.K X.mg (f9 X.prog X.w) x k ps sp)(A:da k X.A)(w:Gl X x)(B:X.ex=[])(ha:PA X.Nc (e::es) t)(u:(x==("__debug__":Str))=false)(v:starEach (e::es) X.env=(false,eval e X.env)::starEach es X.env)(y:(backTo g (starEach es X.env)).any (·.1)=false)(hc:X.calm=true)(I:Inv X pins σ H s)(h:t σ H λvs i=>sp vs i Q λj _ n=>∃C,j= .ref C/\G C σ n):wpAny (model X.prog X.w) X.A (eval (.Call (.Name x p) (e::es) [] g) X.env) (EP X pins σ Q) (BX X pins G) s:=by obtain⟨f,fd,F,m,kp,b⟩:=F;refine wpAny_Call_Name_kw (jw I w m ?_ u);refine PySem.W.callWith_K (h₀:=X.base) I.ok.mod.Ly kp (gg (ha g pins s σ H _ (I.xU _) h) (λus s1⟨vs,i,d,r,q⟩=>⟨d.gT.kK,?_⟩) λ_ _ z=>z.elim) v y;refine Kh F A b d.gT hc (λe s' hc=>?_) r q;obtain⟨a,C,T,c,H',rfl,J,l,hn,D,o,q⟩:=Qu d.gT B hc;cases o;exact⟨a,C,T,c,σ,H',rfl,J,l,hn,q⟩
noncomputable def adR(i:Nat)(sp:Sp)(t:TA):TB:=λD G σ H=>t σ H λvs c=>sp vs c (λv a=>D.nx (σ.set i (some v)) a) λb _ a=>∃C,b= .ref C/\G C σ a
theorem P4{X:Cx}{x y:Str}{i k:Nat}{ps:List Str}{sp:Sp}{e:Expr}{es:List Expr}{t:TA}{p a pos' b:Pos}(g:X.N.Nodup)(hi:X.N[i]?=some y)(u:Loc X.env.scope y)(F:bx X.prog X.w X.K X.mg (f9 X.prog X.w) x k ps sp)(o:da k X.A)(m:Gl X x)(r:X.ex=[])(ha:PA X.Nc (e::es) t)(q:swapsWith (.Call (.Name x p) (e::es) [] a) (some (.Name y b)) pos'.line X.env=pure false:=by rfl)(hf:X.fn y=true\/X.env.scope.names.lookup y=some .local:=by first|exact .inl rfl|exact .inr rfl|assumption)(j:(x==("__debug__":Str))=false:=by decide)(l:starEach (e::es) X.env=(false,eval e X.env)::starEach es X.env:=by rfl)(n:(backTo a (starEach es X.env)).any (·.1)=false:=by rfl)(hc:X.calm=true:=by rfl):PB X [.Assign [.Name y b] (.Call (.Name x p) (e::es) [] a) pos'] (adR i sp t):=by intro pins s σ H D G I h;refine wpAny_execs_cons (wpAny_Assign_Name (b9 (QF F o m r ha j l n hc I h) λv s1 A=>?_) q);obtain⟨z,c,d,w,q1⟩:=A;exact iT d g hi u w (λs2 f=>wpAny_execs_nil ⟨_,c,f,q1⟩) hf
structure oW(K:PySem.W.Frag)(C:Addr):Prop where
 ga:PySem.W.findIn K (.ref C) "__getattribute__"=some (some (.builtin "BaseException.__getattribute__"))
 cl:PySem.W.findIn K (.ref C) "__class__"=some (some (.builtin "object.__class__"))
 gt:PySem.W.findIn K (.ref C) "__getattr__"=some none
 ob:PySem.W.mroIn K C (.type "object")=some true
 be:PySem.W.mroIn K C (.type "BaseException")=some true
 is:(PySem.W.clsIn K C).isSome=true
section
variable{prog:Program}{w:World}{A:Around}{E:Value->Shared->Prop}{h:Heap}{g:Array GenState}{d:Drawn}{t:Nat}{os:OsState}{a C:Addr}{o:Obj}{K:PySem.W.Frag}
theorem zj{R:Result->Shared->Prop}(X:K.In h)(G:oW K C)(b:h.get? a=some o)(hc:o.cls= .ref C)(hq:R (.ok (.ret (.ref C))) ⟨h,g,d,t,os⟩):codeAny (model prog w) A (.call (.builtin "getset_descriptor.__get__") ⟨[.builtin "object.__class__", .ref a, .ref C],[]⟩) R ⟨h,g,d,t,os⟩:=by
 have c:(⟨h,g,d,t,os⟩:Shared).TypeIs (.builtin "object.__class__") "getset_descriptor":=F.typeOf_object_class;have L:PySem.W.Looks (model prog w) h (isSubtype (.ref C) (.type (".".intercalate ("object.__class__".cutAt '.').dropLast))) true:=by rw[F.owner_object_class];exact PySem.W.looks_mroIn X G.ob
 refine codeAny_call_builtin F.slot_gs_get.plain F.entry_gs_get (F.slot_gs_get.check _ _ _ _ _ _ _ _ c (F.args_gs_get _ _ _) ?_);repeat(any_goals(first|assumption|(with_reducible refine wpAny_loadPart_at b ?_;rw[hc])|with_reducible refine az (L.at ?_)|with_reducible refine L.at ?_|wp_step))
 refine⟨Code.quiet_builtin _ (by decide+kernel),codeAny_builtin F.entry_object_class ?_⟩;repeat(any_goals(first|assumption|(with_reducible refine wpAny_loadPart_at b ?_;rw[hc])|wp_step))
theorem qV{tk:Tok}{Q:Fin->Shared->Prop}(X:K.In h)(G:oW K C)(b:h.get? a=some o)(hc:o.cls= .ref C)(hq:Q (.done (.ret (.ref C))) ⟨h,g,d,t,os⟩):wpAny (model prog w) A (Builtin.«object.__getattribute__» ⟨[.ref a, .str "__class__" tk],[]⟩) Q E ⟨h,g,d,t,os⟩:=by
 have i:(⟨h,g,d,t,os⟩:Shared).TypeIs (.builtin "object.__class__") "getset_descriptor":=F.typeOf_object_class;have L:=PySem.W.looks_findIn (M:=model prog w) X G.cl;have c:=F.typeOf_object_class;have e:=F.slot_gs_get.lookup;have f:=F.slot_gs_set.lookup;repeat(any_goals(first|assumption|(with_reducible refine wpAny_loadPart_at b ?_;rw[hc])|with_reducible refine az (L.at ?_)|with_reducible refine L.at ?_|wp_step))
 refine zj X G b hc ?_;repeat(any_goals(first|assumption|wp_step))
theorem Cd{M:Model}{b:Value}{Q:Unit->Shared->Prop}(X:K.In h)(G:oW K C)(f:h.get? a=some o)(hc:o.cls= .ref C)(hq:Q () ⟨h,g,d,t,os⟩):wpAny M A (checkBuiltinCall "BaseException.__getattribute__" ⟨[.ref a,b],[]⟩) Q E ⟨h,g,d,t,os⟩:=by
 have c:builtinKind "BaseException.__getattribute__"=some .slot:=by decide+kernel
 have e:splitId "BaseException.__getattribute__"=some ("BaseException","__getattribute__"):=by decide+kernel
 have L:=PySem.W.looks_mroIn (M:=M) X G.be;have ha:=F.args_bexc_ga (.ref a) b;simp only[checkBuiltinCall,c,e];refine az ?_
 ·unfold isInstance;repeat(first|(with_reducible refine wpAny_loadPart_at f ?_;rw[hc])|with_reducible refine az (L.at ?_)|with_reducible refine L.at ?_|wp_step)
  exact hq
theorem xc{tk:Tok}{R:Result->Shared->Prop}(X:K.In h)(G:oW K C)(b:h.get? a=some o)(hc:o.cls= .ref C)(hq:R (.ok (.ret (.ref C))) ⟨h,g,d,t,os⟩):codeAny (model prog w) A (.call (.builtin "BaseException.__getattribute__") ⟨[.ref a, .str "__class__" tk],[]⟩) R ⟨h,g,d,t,os⟩:=codeAny_call_builtin F.excAttr_ValueError.ga.plain F.entry_bexc_ga (Cd X G b hc (qV X G b hc hq))
theorem AG{tk:Tok}{Q:Value->Shared->Prop}(X:K.In h)(G:oW K C)(c:h.get? a=some o)(hc:o.cls= .ref C)(hq:Q (.ref C) ⟨h,g,d,t,os⟩):wpAny (model prog w) A (getAttrBy (.ref a) (.str "__class__" tk) false) Q E ⟨h,g,d,t,os⟩:=by
 have f:=F.excAttr_ValueError.ga.bind (.ref a);have e:(Value.builtin "BaseException.__getattribute__"==Value.builtin "object.__getattribute__")=false:=by decide+kernel
 have i:(onTheHeap (Value.ref C)&&Value.builtin "BaseException.__getattribute__"==Value.builtin "object.__getattribute__")=false:=by rw[e];rfl
 have b:=PySem.W.looks_findIn (M:=model prog w) X G.ga;have L2:=PySem.W.looks_findIn (M:=model prog w) X G.gt;repeat(any_goals(first|assumption|(with_reducible refine wpAny_loadPart_at c ?_;rw[hc])|with_reducible refine az (b.at ?_)|with_reducible refine b.at ?_|with_reducible refine az (L2.at ?_)|with_reducible refine L2.at ?_|wp_step))
 refine xc X G c hc ?_;repeat(any_goals(first|assumption|wp_step))
theorem xk{Q:Option Value->Shared->Prop}(X:K.In h)(G:oW K C)(b:h.get? a=some o)(hc:o.cls= .ref C)(hq:Q (some (.ref C)) ⟨h,g,d,t+1,os⟩):wpAny (model prog w) A (getAttr? (.ref a) "__class__") Q E ⟨h,g,d,t,os⟩:=by unfold getAttr? getAttrBy?;repeat(any_goals(first|assumption|with_reducible apply AG X G b hc|wp_step))
theorem p_{K:PySem.W.Frag}{a C:Addr}(G:oW K C):PySem.W.KitX K (.ref a) (.ref C) (λh=>∃o,h.get? a=some o/\o.cls= .ref C)where
 ty:=λM h X⟨o,e,c⟩=>by have :=(PySem.W.Looks.ld (M:=M) (part:=none) e);intro A Q E s k q;exact(by first|exact az (wpAny_loadPart (k _ _ e) (bA (by rw[c];exact q)))|(unfold typeOf loadHead;exact az (wpAny_loadPart (k _ _ e) (bA (by rw[c];exact q))))|(unfold typeOf;exact az (wpAny_loadPart (k _ _ e) (bA (by rw[c];exact q)))))
 it:=λM h X _=>by
  have b:=G.is;unfold PySem.W.clsIn at b;split at b;·rename_i i d' j l f;intro m r p s' k q;unfold isType loadHead;exact az (wpAny_loadPart (k _ _ (X _ _ f)) (bA q))
  ·cases b
 ne:=λh tp u v n sl X e=>by
  have b:=G.is;unfold PySem.W.clsIn at b;split at b
  ·rename_i i d' j l f;by_cases z:C=tp;·have :=X _ _ f;rw[z,e]at this;cases this
   ·simpa using z
  ·cases b
 ca:=λ{prog w A E Q s}X⟨o,e,c⟩q=>by obtain⟨h,g,d,t,os⟩:=s;exact xk X G e c q
end
section
variable{X:Cx}{pins:List (Addr×Obj)}{σ:L2.St}{H:Hp}{s:Shared}{a:Addr}{D:List (Str×V)}{k:Str}{tk:Tok}{A:Around}{E:Value->Shared->Prop}
theorem N4{Q:Value->Shared->Prop}(T:mf X.K a D)(I:Inv X pins σ H s)(h:∀b,RelV ((KTD.datumAt k D).getD .a_) b->Q b {s with toks:=s.toks+1}):wpAny (model X.prog X.w) A (call (.builtin "dict.get") [.ref a, .str k tk]) Q E s:=by
 have ty:=T.typeIs I;refine qU PySem.F.slot_dict_get ty PySem.F.entry_dict_get ?_ (PySem.F.args_dict_get_2 _ _);show wpAny (model X.prog X.w) _ (dictGet a (.str k tk)>>=_) _ _ s;refine az (Bx T I (λv u e r=>?_) λhn=>?_);·have h:=h u (by rw[e];exact r);exact bA ⟨u,rfl,h⟩
 ·have h:=h .none (by rw[hn];exact rfl);refine az ?_;unfold Builtin.Dict.missed;rw[T.sys];simp only[Bool.false_eq_true,if_false];exact bA (bA ⟨_,rfl,h⟩)
end
noncomputable def Zz(K:PySem.W.Frag)(td ty:TE):TE:=λσ H Q=>td σ H λx b=>∃a D,x= .ref a/\mf K a D/\ty σ b λy c=>∃k,y= .str k/\Q ((KTD.datumAt k D).getD .a_) c
theorem OP{X:Cx}{o e:Expr}{apos eU:Pos}{td ty:TE}(l:PE X o td)(j:PE X e ty)(m:M1 X o "get" apos e eU):PE X (.Call (.Attribute o "get" apos) [e] [] eU) (Zz X.K td ty):=by
 intro pins s σ H Q I h;refine wpAny_Call_method m.base m.few m.line PySem.F.plainAttrs_dict PySem.F.slot_dict_get PySem.F.type_dict_get (b9 (l pins s σ H _ I h) λu s1 v=>?_);obtain⟨x,f,c,n,a,D,ex,T,q1⟩:=v;subst ex;obtain rfl:u=Value.ref a:=n;have t1:=T.typeIs c;refine⟨t1,λb q=>?_,?_⟩;·cases q;obtain⟨o,_,_,e,x,_⟩:=T.ex;exact⟨o,c.kK a o e,x.2.1⟩
 rw[m.trees];refine Calls.callWith_builtin rfl (Calls.evalArgs_plain (Calls.spliced_cons (b9 (j pins s1 σ f _ c q1) λw s2⟨y,g,d,p,k,i,q2⟩=>Calls.spliced_nil ?_)));subst i;obtain⟨t,rfl⟩:=p;exact N4 T d λz r=>⟨_,g,d.tok _,r,q2⟩
theorem zt:bootBuiltins "ValueError"=some (.type "ValueError"):=by decide+kernel
structure afl(a e it:Addr)(i:Nat)(h:Heap):Prop where
 e:∃old,IsEnum h e it i old
 it:h.IsListIter it a i
theorem gV{CX:oX}{P:Program}{w:World}{K:PySem.W.Frag}{mg:Str->Option Value}{base:Heap}{N:List Str}{qual:Str}{scope:Scope}{f:Addr}{cd:Value}{A:Around}{outer:List Env}{s:Shared}{H:Hp}{E:XK}:(fE CX P w K mg base N qual scope f cd A outer s H E).Nc.K=K:=rfl
end L3
end
section
namespace L3
open PySem L2
theorem qM{t1 t2:TS}{D:Ends}{σ:L2.St}{H:Hp}(h:let a:Ends:=D;let v2:TS:=t2;bc t1 v2 a σ H):(bc t1 (t2)) D σ H:=h
theorem zu{t1 t2 a:TS}{D:Ends}{σ:L2.St}{H:Hp}(h:let b:Ends:=D;let c:TS:=a;let v2:TS:=bc t2 c;bc t1 v2 b σ H):(bc t1 (bc t2 (a))) D σ H:=h
theorem Et{t1 t2 a t4:TS}{D:Ends}{σ:L2.St}{H:Hp}(h:let b:Ends:=D;let d:TS:=t4;let c:TS:=bc a d;let v2:TS:=bc t2 c;bc t1 v2 b σ H):(bc t1 (bc t2 (bc a (t4)))) D σ H:=h
theorem X7{t1 t2 a t4 b:TS}{D:Ends}{σ:L2.St}{H:Hp}(h:let c:Ends:=D;let f:TS:=b;let e:TS:=bc t4 f;let d:TS:=bc a e;let v2:TS:=bc t2 d;bc t1 v2 c σ H):(bc t1 (bc t2 (bc a (bc t4 (b))))) D σ H:=h
theorem SW{t1 t2 a t4 b c:TS}{D:Ends}{σ:L2.St}{H:Hp}(h:let d:Ends:=D;let i:TS:=c;let g:TS:=bc b i;let f:TS:=bc t4 g;let e:TS:=bc a f;let v2:TS:=bc t2 e;bc t1 v2 d σ H):(bc t1 (bc t2 (bc a (bc t4 (bc b (c)))))) D σ H:=h
theorem abG{t1 t2 a t4 b c d:TS}{D:Ends}{σ:L2.St}{H:Hp}(h:let e:Ends:=D;let k:TS:=d;let j:TS:=bc c k;let i:TS:=bc b j;let g:TS:=bc t4 i;let f:TS:=bc a g;let v2:TS:=bc t2 f;bc t1 v2 e σ H):(bc t1 (bc t2 (bc a (bc t4 (bc b (bc c (d))))))) D σ H:=h
theorem ae_{t1 t2 a t4 b c d e:TS}{D:Ends}{σ:L2.St}{H:Hp}(h:let f:Ends:=D;let m:TS:=e;let l:TS:=bc d m;let k:TS:=bc c l;let j:TS:=bc b k;let i:TS:=bc t4 j;let g:TS:=bc a i;let v2:TS:=bc t2 g;bc t1 v2 f σ H):(bc t1 (bc t2 (bc a (bc t4 (bc b (bc c (bc d (e)))))))) D σ H:=h
theorem aaD{t1 t2 d t4 e f g i j a b c:TS}{D:Ends}{σ:L2.St}{H:Hp}(h:let k:Ends:=D;let n:TS:=c;let m:TS:=bc b n;let l:TS:=bc a m;let u:TS:=bc j l;let t:TS:=bc i u;let s:TS:=bc g t;let r:TS:=bc f s;let q:TS:=bc e r;let p:TS:=bc t4 q;let o:TS:=bc d p;let v2:TS:=bc t2 o;bc t1 v2 k σ H):(bc t1 (bc t2 (bc d (bc t4 (bc e (bc f (bc g (bc i (bc j (bc a (bc b (c)))))))))))) D σ H:=h
theorem abd{t1 t2 e t4 f g i j k a b c d:TS}{D:Ends}{σ:L2.St}{H:Hp}(h:let l:Ends:=D;let p:TS:=d;let o:TS:=bc c p;let n:TS:=bc b o;let m:TS:=bc a n;let w:TS:=bc k m;let v:TS:=bc j w;let u:TS:=bc i v;let t:TS:=bc g u;let s:TS:=bc f t;let r:TS:=bc t4 s;let q:TS:=bc e r;let v2:TS:=bc t2 q;bc t1 v2 l σ H):(bc t1 (bc t2 (bc e (bc t4 (bc f (bc g (bc i (bc j (bc k (bc a (bc b (bc c (d))))))))))))) D σ H:=h
end L3
end
section
namespace KM
theorem d0{t:D}{n:Nat}(h:depth t+0<=n):depth t<=n:=h
theorem q0{x:PySem.Str}{k n:Nat}(h:k+1<=n):depth (.tup [.str x])+k<=n:=by simp only[depth,aN];lia
theorem q1{x:PySem.Str}{a:D}{k n:Nat}(h:depth a+(k+1)<=n):depth (.tup [.str x,a])+k<=n:=by simp only[depth,aN];lia
theorem q2{x:PySem.Str}{a b:D}{k n:Nat}(h1:depth a+(k+1)<=n)(h2:depth b+(k+1)<=n):depth (.tup [.str x,a,b])+k<=n:=by simp only[depth,aN];lia
theorem q3{x:PySem.Str}{a b c:D}{k n:Nat}(h1:depth a+(k+1)<=n)(h2:depth b+(k+1)<=n)(h3:depth c+(k+1)<=n):depth (.tup [.str x,a,b,c])+k<=n:=by simp only[depth,aN];lia
theorem q4{x:PySem.Str}{a b c d:D}{k n:Nat}(h1:depth a+(k+1)<=n)(h2:depth b+(k+1)<=n)(h3:depth c+(k+1)<=n)(h4:depth d+(k+1)<=n):depth (.tup [.str x,a,b,c,d])+k<=n:=by simp only[depth,aN];lia
end KM
end
section
namespace L3
open PySem L2
theorem by0{P:List Value->Prop}(h:P []):∀us:List Value,us.length=0->P us:=λus e=>by rw[List.length_eq_zero_iff.mp e];exact h
theorem byS{P:List Value->Prop}{n:Nat}(h:∀a us,us.length=n->P (a::us)):∀us:List Value,us.length=n+1->P us|[],e=>nomatch e|a::us,e=>h a us (Nat.succ.inj e)
theorem iW{P:List Value->Prop}(h:∀a,P [a]):∀us:List Value,us.length=1->P us:=byS λa=>by0 (h a)
theorem LV{P:List Value->Prop}(h:∀a b,P [a,b]):∀us:List Value,us.length=2->P us:=byS λa=>iW (h a)
theorem FP{P:List Value->Prop}(h:∀a b c,P [a,b,c]):∀us:List Value,us.length=3->P us:=byS λa=>LV (h a)
theorem by4{P:List Value->Prop}(h:∀a b c d,P [a,b,c,d]):∀us:List Value,us.length=4->P us:=byS λa=>FP (h a)
theorem VI{P:List Value->Prop}(h:∀a b c d e,P [a,b,c,d,e]):∀us:List Value,us.length=5->P us:=byS λa=>by4 (h a)
theorem by6{P:List Value->Prop}(h:∀a b c d e f,P [a,b,c,d,e,f]):∀us:List Value,us.length=6->P us:=byS λa=>VI (h a)
def cC(K:PySem.W.Frag)(x:Str)(st:Stmt):Prop:=∃(f:Addr)(od an:Option Addr)(sl:Array (Option Value))(oc kV dc pm cd ct:Value),PySem.W.nsIn K mainGlobals x=some (some (.ref f))/\K.lookup f=some ⟨oc,od, .func (PySem.W.fnOf x x (gq st) (cU st) (ar st) .none kV dc pm an cd ct),sl⟩/\PySem.W.codeIn K cd x=true/\PySem.W.keepIn K (.ref f)=true
theorem dfi{K:PySem.W.Frag}{x:Str}{st:Stmt}{f:Addr}{od an:Option Addr}{sl:Array (Option Value)}{oc kV dc pm cd ct:Value}(a:PySem.W.nsIn K mainGlobals x=some (some (.ref f)))(l:K.lookup f=some ⟨oc,od, .func (PySem.W.fnOf x x (gq st) (cU st) (ar st) .none kV dc pm an cd ct),sl⟩)(c:PySem.W.codeIn K cd x=true)(k:PySem.W.keepIn K (.ref f)=true):cC K x st:=⟨f,od,an,sl,oc,kV,dc,pm,cd,ct,a,l,c,k⟩
theorem cC.df{K:PySem.W.Frag}{h:Heap}{mg:Str->Option Value}{x:Str}{st:Stmt}{ps:List Str}(D:cC K x st)(X:K.In h)(G:h.Ns mainGlobals mg)(b:∀(kV doc pm:Value)(an:Option Addr)(cZ ct:Value)(us:List Value),us.length=ps.length->bindArgs (PySem.W.fnOf x x (gq st) (cU st) (ar st) .none kV doc pm an cZ ct) ⟨us,[]⟩=pure (ps.zip us)):Df K mg x st ps:=by obtain⟨f,od,an,sl,oc,kV,dc,pm,cd,ct,a,l,c,k⟩:=D;exact⟨f,_,NJ l c k,PySem.W.mg_of X G a,(NJ l c k).binds b⟩
end L3
end
theorem L2.da.m{j k:Nat}{A:PySem.Around}(r:L2.da k A)(h:j<=k:=by first|decide|lia):L2.da j A:=r.mono h
section
namespace K24
open PySem L2 L3 KM
abbrev eQ:List Str:=["_law_script","_law_tape","_law_deep","_law_near","_law_pool_here"]
abbrev LC:List Str:=["_law_script","_law_tape","_law_deep","_law_near","_law_pool_here","_law_way"]
abbrev Bi:List Str:=["_law_script","_law_tape","_law_many"]
noncomputable def top(i:Nat):Stmt:=PySem.Challenge.pw_keeper_k24_walked.main.body.getD i (.Pass ⟨0,0,0,0⟩)
noncomputable abbrev hI:Stmt:=top 23
noncomputable abbrev iQ:Stmt:=top 24
noncomputable abbrev kM:Stmt:=top 25
noncomputable abbrev gS:Stmt:=top 26
noncomputable abbrev du:Stmt:=top 27
noncomputable abbrev kR:Stmt:=top 28
noncomputable abbrev kU:Stmt:=top 29
noncomputable abbrev mD:Stmt:=top 31
noncomputable abbrev jt:Stmt:=top 32
noncomputable abbrev eY:Stmt:=top 33
noncomputable abbrev kT:Stmt:=top 34
noncomputable abbrev eO:Stmt:=top 36
noncomputable abbrev kD:Stmt:=top 37
noncomputable abbrev j5:Stmt:=top 38
noncomputable abbrev kI:Stmt:=top 41
noncomputable abbrev gp:Stmt:=top 42
noncomputable abbrev gu:Stmt:=top 43
noncomputable abbrev kN:Stmt:=top 44
noncomputable abbrev m_:Stmt:=top 46
noncomputable abbrev jr:Stmt:=top 48
noncomputable abbrev g7:Stmt:=top 49
noncomputable abbrev fA:Stmt:=top 50
noncomputable abbrev jn:Stmt:=top 51
noncomputable abbrev gX:Stmt:=top 52
noncomputable abbrev iS:Stmt:=top 53
noncomputable abbrev gL:Stmt:=top 54
noncomputable abbrev gR:Stmt:=top 55
noncomputable abbrev eZ:Stmt:=top 56
noncomputable abbrev fb:Stmt:=top 57
noncomputable abbrev fQ:Stmt:=top 58
noncomputable abbrev gB:Stmt:=top 59
noncomputable abbrev iZ:Stmt:=top 60
noncomputable abbrev dY:Stmt:=top 61
noncomputable abbrev hU:Stmt:=top 62
noncomputable abbrev hV:Stmt:=top 63
noncomputable abbrev jv:Stmt:=top 64
noncomputable abbrev iY:Stmt:=top 65
noncomputable abbrev jC:Stmt:=top 66
noncomputable abbrev jl:Stmt:=top 67
noncomputable abbrev ik:Stmt:=top 68
noncomputable abbrev fG:Stmt:=top 69
noncomputable abbrev ig:Stmt:=top 70
noncomputable abbrev iB:Stmt:=top 71
noncomputable abbrev gk:Stmt:=top 72
noncomputable abbrev iJ:Stmt:=top 73
noncomputable abbrev ja:Stmt:=top 74
noncomputable abbrev Hy:Stmt:=top 75
structure xV where
 none_:Unit:=()
 yI:Addr
 j6:Addr
 Jl:Addr
 eP:Addr
 cu:Addr
 bp:Addr
 cJ:Addr
 YD:Addr
 yx:Addr
 QR:Addr
 Ql:Addr
 Lh:Addr
 Kg:Addr
 Oy:Addr
 NG:Addr
 Pz:Addr
 Ao:Addr
 zT:Addr
structure Mg(mg:Str->Option Value)(t:xV):Prop where
 Co:mg "ValueError"=none
 Zu:mg "bool"=none
 Z7:mg "dict"=none
 WW:mg "int"=none
 cF:mg "isinstance"=none
 gE:mg "len"=none
 Gw:mg "list"=none
 OI:mg "max"=none
 ac4:mg "min"=none
 ia:mg "range"=none
 Cq:mg "tuple"=none
 adm:mg "zip"=none
 g_MOST_KNOTS:∃tk,mg "MOST_KNOTS"=some (.int 600 tk)
 g_MOST_DEEP:∃tk,mg "MOST_DEEP"=some (.int 40 tk)
 g_MOST_VARIABLE:∃tk,mg "MOST_VARIABLE"=some (.int 99 tk)
 g_KIDS_DUE:mg "KIDS_DUE"=some (.ref t.yI)
 g_BINDER_OVER:mg "BINDER_OVER"=some (.ref t.j6)
 g_RULES:mg "RULES"=some (.ref t.Jl)
 g_KeeperError:mg "KeeperError"=some (.ref t.eP)
 g_Great:mg "Great"=some (.ref t.cu)
 g_NoPlace:mg "NoPlace"=some (.ref t.bp)
 g_NoStep:mg "NoStep"=some (.ref t.cJ)
 g_Dry:mg "Dry"=some (.ref t.YD)
 g_NoVariable:mg "NoVariable"=some (.ref t.yx)
 g_NoName:mg "NoName"=some (.ref t.QR)
 g_NotAll:mg "NotAll"=some (.ref t.Ql)
 g_NotSome:mg "NotSome"=some (.ref t.Lh)
 g_NotSame:mg "NotSame"=some (.ref t.Kg)
 g_Unlike:mg "Unlike"=some (.ref t.Oy)
 g_NoText:mg "NoText"=some (.ref t.NG)
 g_NoWord:mg "NoWord"=some (.ref t.Pz)
 g_TwiceTold:mg "TwiceTold"=some (.ref t.Ao)
 g_NotClosed:mg "NotClosed"=some (.ref t.zT)
seal L2.PE L2.PS L2.iO L2.PT L2.PW L2.PA L2.PG L2.Bu L2.PI L2.PC L2.PO L2.AY L2.PK L3.A8
variable{P:Program}{w:World}{K:PySem.W.Frag}{mg:Str->Option Value}{base:Heap}{f:Addr}{fd:FuncData}
variable{P:Program}{w:World}{K:PySem.W.Frag}{mg:Str->Option Value}{base:Heap}{f:Addr}{fd:FuncData}
noncomputable def aaF:List (Key×V):=[(.inr "nat", .str ""),(.inr "none", .str ""),(.inr "zero", .str ""),(.inr "all", .str "kk"),(.inr "some", .str "kk"),(.inr "same", .str "ktt"),(.inr "fun", .str "kt"),(.inr "app", .str "tt")]
noncomputable def acH:List (Key×V):=[(.inr "next", .str "t"),(.inr "rec", .str "kttt"),(.inr "like", .str "kt"),(.inr "carry", .str "ktt"),(.inr "never", .str "kt"),(.inr "pair", .str "ktt"),(.inr "first", .str "t")]
noncomputable def abe:List (Key×V):=[(.inr "second", .str "t"),(.inr "var", .str "n"),(.inr "name", .str "w")]
noncomputable def dS(x:Str):V:=match fh aaF (Sum.inr x:Key)with|some v=>v|none=>match fh acH (Sum.inr x:Key)with|some v=>v|none=>(fh abe (Sum.inr x:Key)).getD .a_
noncomputable def h_(w:Str):Bool:=VG (.str w) [.str "nat", .str "none", .str "all", .str "some", .str "same"]
noncomputable def iD:D->Bool| .int i=>decide (0<=i)|_=>false
mutual noncomputable def bu(nm:D->Bool)(k:Bool):D->Bool
 | .tup (.str w::ps)=>match dS w with| .str s=>(h_ w==k)&&eh nm s.cps.toList ps|_=>false
 |_=>false noncomputable def eh(nm:D->Bool):List Nat->List D->Bool|[],[]=>true|c::cs,p::ps=>(if c=107 then bu nm true p else if c=116 then bu nm false p else if c=110 then iD p else nm p)&&eh nm cs ps|_,_=>false end
noncomputable def dv(a:D->Bool)(c:Nat)(p:D):Bool:=if c=107 then bu a true p else if c=116 then bu a false p else if c=110 then iD p else a p
theorem aP(a:D->Bool)(c:Nat)(cs:List Nat)(p:D)(ps:List D):eh a (c::cs) (p::ps)=(dv a c p&&eh a cs ps):=by rw[eh];rfl
theorem c_{a:D->Bool}{k:Bool}{w s:Str}{ps:List D}(h1:dS w= .str s)(h2:h_ w=k)(h3:eh a s.cps.toList ps=true):bu a k (.tup (.str w::ps))=true:=by rw[bu,h1];simp[h2,h3]
theorem eT:dS "var"= .str "n":=by decide+kernel
theorem gN:dS "name"= .str "w":=by decide+kernel
theorem xq:h_ "var"=false:=by decide+kernel
theorem M4:h_ "name"=false:=by decide+kernel
theorem yO:(Str.ofString "n").cps.toList=[110]:=by decide+kernel
theorem KN:(Str.ofString "w").cps.toList=[119]:=by decide+kernel
theorem XX{b:D->Bool}{z:Int}(a:0<=z)(h1:z<=99):bu b false (.tup [.str "var", .int z])=true:=by refine c_ eT xq ?_;rw[yO,aP];simp[dv,iD,a,h1,eh]
theorem BR{a:D->Bool}{y:Str}(h:a (.str y)=true):bu a false (.tup [.str "name", .str y])=true:=by refine c_ gN M4 ?_;rw[KN,aP];simp[dv,h,eh]
variable{P:Program}{w:World}{K:PySem.W.Frag}{mg:Str->Option Value}{base:Heap}{f fN fM fS:Addr}{fd fdN fdM fdS:FuncData}
noncomputable def w0(k:Bool):Str:=if k then"nat"else"var"
variable{t:xV}
end K24
end
section
namespace K24
open PySem L2 L3 KM
seal L2.PE L2.PS L2.iO L2.PT L2.PW L2.PA L2.PG L2.Bu L2.PI L2.PC L2.PO L2.AY L2.PK L3.A8
variable{P:Program}{w:World}{K:PySem.W.Frag}{mg:Str->Option Value}{base:Heap}{t:xV}
noncomputable def jI:List (Str×List V):=[("nat",[]),("none",[]),("all",[.str "kind", .str "kind"]),("some",[.str "kind", .str "kind"]),("same",[.str "kind", .str "term", .str "term"]),("var",[]),("fun",[.str "kind", .str "term"]),("app",[.str "term", .str "term"]),("zero",[]),("next",[.str "term"]),("rec",[.str "kind", .str "term", .str "term", .str "term"]),("like",[.str "kind", .str "term"]),("carry",[.str "kind", .str "term", .str "term"]),("never",[.str "kind", .str "term"]),("pair",[.str "kind", .str "term", .str "term"]),("first",[.str "term"]),("second",[.str "term"]),("name",[])]
noncomputable def abD(c:Nat):V:=if c=107 then .str "kind"else .str "term"
noncomputable def V6(r:Str×List V):Bool:=match dS r.1 with| .str s=>decide (s.cps.size<=4)&&if r.1="var"then decide (s="n")else if r.1="name"then decide (s="w")else s.cps.toList.all (λc=>c==107||c==116)&&decide (r.2=s.cps.toList.map abD)|_=>false
theorem Sz:jI.all V6=true:=by decide+kernel
theorem lookup_mem{a:Type}{x:Str}{v:a}:∀{l:List (Str×a)},l.lookup x=some v->(x,v)∈l
 |[],h=>by simp at h
 |(k,u)::l,h=>by
  rw[nQ]at h;cases e:x==k with
   |true=>
    rw[e]at h;obtain rfl:x=k:=by simpa using e
    cases h;exact eD
   |false=>rw[e]at h;exact eA _ (lookup_mem h)
theorem lookup_none{a:Type}{x:Str}:∀{l:List (Str×a)},l.lookup x=none->x∉l.map (·.1)
 |[],_=>by simp
 |(k,u)::l,h=>by
  rw[nQ]at h;cases e:x==k with
   |true=>rw[e]at h;cases h
   |false=>
    rw[e]at h;have :=lookup_none h;have e:¬x=k:=by simpa using e
    simp only[ff,kZ,not_or];exact⟨e,this⟩
inductive Shp(w:Str):Prop where|a_(h1:jI.lookup w=none)(h2:dS w= .a_)|var(h1:jI.lookup w=some [])(h2:w="var")|name(h1:jI.lookup w=some [])(h2:w="name")|abM(s:Str)(h1:jI.lookup w=some (s.cps.toList.map abD))(h2:dS w= .str s)(h3:w≠"var")(h4:w≠"name")(h5:∀c∈s.cps.toList,c=107\/c=116)(h6:s.cps.size<=4)
theorem S3{tab:List (Key×V)}{w:Str}(h:∀k∈tab.map (·.1),k≠Sum.inr w):fh tab (Sum.inr w:Key)=none:=by cases e:fh tab (Sum.inr w:Key)with|none=>rfl|some v=>exact absurd rfl (h _ (Us e))
noncomputable def WU(k:Key)(l:List Str):Bool:=match k with| .inr x=>decide (x∈l)| .inl _=>true
theorem shp(w:Str):Shp w:=by
 cases h:jI.lookup w with
  |none=>
   refine .a_ h ?_;have i:=lookup_none h;have sub:∀tab:List (Key×V),(tab.map (·.1)).all (λk=>WU k (jI.map (·.1)))=true->fh tab (Sum.inr w:Key)=none:=λtab ht=>S3 λk f z=>by subst z;have :=List.all_eq_true.mp ht _ f;simp only[WU,decide_eq_true_eq]at this;exact i this
   have e1:=sub aaF (by decide+kernel);have e2:=sub acH (by decide+kernel);have e3:=sub abe (by decide+kernel);unfold dS;rw[e1,e2,e3];rfl
  |some ds=>
   have m:=lookup_mem h;have g:=List.all_eq_true.mp Sz _ m;unfold V6 at g;by_cases a:w="var";·subst a;exact .var (by decide+kernel) rfl
   ·by_cases hn:w="name";·subst hn;exact .name (by decide+kernel) rfl
    ·cases e:dS w with|str s=>rw[e]at g;simp only[a,hn,if_false,cW,List.all_eq_true,Bool.or_eq_true,beq_iff_eq,decide_eq_true_eq]at g;obtain⟨b,c,d⟩:=g;exact .abM s (by rw[h,d]) e a hn c b|_=>rw[e]at g;simp at g
noncomputable def dX(x:Str):Bool:=decide (x="var")||decide (x="name")
noncomputable def aB(x:Str)(ps:List D):List D:=if dX x=true then[]else ps
def fZ:Sp:=λvs H Q _=>∃(x:Str)(ps:List D)(v:V),vs=[v]/\Rep H (.tup (.str x::ps)) v/\ps.length<=10/\∀(a:Addr)(us:List V)(H':Hp),H a=none->aQ H H'->H' a=some (.lst us)->bg H' (aB x ps) us->Q (.ref a) H'
theorem FX:aT ["thing"] ["thing"] (ar kM):=⟨rfl,rfl,rfl,by decide+kernel,rfl,by decide+kernel,by decide+kernel⟩
theorem ME(D:Df K mg "kids_of" kM ["thing"])(M:Mg mg t):bx P w K mg bF "kids_of" (1) ["thing"] fZ:=by
 refine D.ok FX (λvs H Q E h=>?_) (λbase f cZ A outer s H vs Q E u h=>?_);·obtain⟨x,ps,v,rfl,_⟩:=h;rfl
 obtain⟨x,ps,v,rfl,r,hl,q⟩:=h;obtain⟨a,us,rfl,ha,v0,us,rfl,⟨rfl,y⟩,i⟩:=r;have o:=i.length;have e:lX (V.str x::us) 0=some (.str x):=aL (j:=0) rfl;have d:bU K H a (.str x::us):=bU.of ha;refine⟨_,(ah (bf (L2.PW.pt (lF (aA bQ (aS aU (pv 0) ai (λ_ _=>rfl)) aq (aR _)) (i9 (aA bQ (aS aU (pv 0) ai (λ_ _=>rfl)) aq (aR _))))) (ak (aw (bR ag))) aK) (ak (aw (fC jj rfl M.Gw Cs (ae (cg Cf (pv 0) (bZ ai) bI) ag))))),?_⟩;try dsimp only[gV,n]
 refine qM ?_;intro _ _;have leaf:dX x=true->0<=sizeLine/\∀p,H p=none->Q (.ref p) (upd H p (.lst [])):=λc=>⟨fW _,λp b=>q p [] _ b (ao b _) aj (by unfold aB;rw[if_pos c];exact rfl)⟩;refine⟨_,rfl,a,_,_,_,rfl,rfl,d,e,rfl,_,rfl,?_⟩;refine ba (λc=>?_) (λc=>?_);·refine lZ ?_;have c:V.str x=V.str "var":=of_decide_eq_true c;cases c;exact leaf rfl
 refine⟨_,rfl,a,_,_,_,rfl,rfl,d,e,rfl,_,rfl,?_⟩;refine ba (λc2=>?_) (λc2=>?_);·have c2:V.str x=V.str "name":=of_decide_eq_true c2;cases c2;exact leaf (by decide+kernel)
 have m:dX x=false:=by unfold dX;have h1:x≠"var":=λz=>c (by rw[z];decide+kernel);have h2:x≠"name":=λz=>c2 (by rw[z];decide+kernel);simp[h1,h2]
 have k:aB x ps=ps:=by unfold aB;rw[m];rfl
 rw[k]at q;have g:gJ (V.str x::us) (some 1) none=us:=by have :=kO (V.str x::us) 1;simpa using this
 refine⟨_,rfl,_,rfl,a,_,rfl,d,λp b=>?_,λz=>?_⟩;·rw[g];refine⟨p,us,rfl, .inr (bU.of aj),λl hl=>?_⟩;exact q l us _ ((ao b _).free hl) ((ao b _).trans (ao hl _)) aj (i.mono ((ao b _).trans (ao hl _)))
 ·rw[g]at z;exact absurd (congrArg List.length z) (by simp)
theorem mC{a:D->Bool}:∀{cs:List Nat}{ps:List D},eh a cs ps=true->cs.length=ps.length|[],[],_=>rfl|[],_::_,h=>by simp[eh]at h|_::_,[],h=>by simp[eh]at h|c::cs,p::ps,h=>by rw[aP,cW]at h;rw[bS,bS,mC h.2]
noncomputable def ktB(c:Nat):Bool:=!(Builtin.Str.occurrences (Str.ofString "kt") ⟨#[c]⟩ 0 (Str.ofString "kt").length 1).isEmpty
theorem kt1:ktB 107=true:=by decide+kernel
theorem kt2:ktB 116=true:=by decide+kernel
theorem kt3:ktB 110=false:=by decide+kernel
theorem kt4:ktB 119=false:=by decide+kernel
theorem bO{b:D->Bool}{k:Bool}{x:Str}{ps:List D}(h:bu b k (.tup (.str x::ps))=true):∃s,dS x= .str s/\h_ x=k/\eh b s.cps.toList ps=true/\s.cps.size<=4/\s.cps.toList.length=ps.length/\(∀c∈s.cps.toList,ktB c=!dX x)/\(dX x=false->∀c∈s.cps.toList,c=107\/c=116)/\∃r,jI.lookup x=some r/\r.length=(aB x ps).length:=by
 have a:∀s,dS x= .str s->h_ x=k/\eh b s.cps.toList ps=true:=λs e=>by rw[bu,e,cW]at h;exact⟨by simpa using h.1,h.2⟩
 cases shp x with
  |a_ h1 h2=>rw[bu,h2]at h;simp at h
  |var h1 h2=>subst h2;obtain⟨k1,k2⟩:=a _ eT;refine⟨_,eT,k1,k2,by decide,mC k2,λc hc=>?_,λz=>absurd z (by decide+kernel),_,h1,by unfold aB;rw[if_pos (by decide+kernel)];rfl⟩;rw[yO]at hc;rw[List.mem_singleton.mp hc,kt3];decide+kernel
  |name h1 h2=>subst h2;obtain⟨k1,k2⟩:=a _ gN;refine⟨_,gN,k1,k2,by decide,mC k2,λc hc=>?_,λz=>absurd z (by decide+kernel),_,h1,by unfold aB;rw[if_pos (by decide+kernel)];rfl⟩;rw[KN]at hc;rw[List.mem_singleton.mp hc,kt4];decide+kernel
  |abM s h1 h2 h3 h4 h5 h6=>
   obtain⟨k1,k2⟩:=a s h2;have d:dX x=false:=by unfold dX;simp[h3,h4]
   refine⟨s,h2,k1,k2,h6,mC k2,λc hc=>?_,λ_=>h5,_,h1,?_⟩
   ·rw[d];rcases h5 c hc with z|z<;>rw[z];·exact kt1
    ·exact kt2
   ·unfold aB;rw[d,cV,mC k2];rfl
end K24
end
section
namespace K24
open PySem L2 L3 KM PyProof.Rows
seal L2.PE L2.PS L2.iO L2.PT L2.PW L2.PA L2.PG L2.Bu L2.PI L2.PC L2.PO L2.AY L2.PK L3.A8
variable{P:Program}{w:World}{K:PySem.W.Frag}{mg:Str->Option Value}{base:Heap}{t:xV}
noncomputable def BO:List (Str×V):=[("all", .int 1),("some", .int 1),("fun", .int 1),("rec", .int 0),("carry", .int 0)]
noncomputable def EE(x:Str):V:=(KTD.datumAt x BO).getD .a_
noncomputable def mm(x:Str)(i:Nat):V:=if decide (V.int i=EE x)=true then .int 1 else .int 0
noncomputable def Gd(x:Str)(n:Nat):List V:=(List.range n).map (mm x)
def By:Sp:=λvs H Q _=>∃(x:Str)(ps:List D)(v:V)(k:Bool),vs=[v]/\Rep H (.tup (.str x::ps)) v/\bu ay k (.tup (.str x::ps))=true/\∀(a:Addr)(H':Hp),aQ H H'->H' a=some (.lst (Gd x (aB x ps).length))->Q (.ref a) H'
theorem LQ(x:Str)(i:Int):Yd (.int i) (EE x)=true:=by
 unfold EE;cases e:KTD.datumAt x BO with
  |none=>rfl
  |some v=>
   have :v= .int 1\/v= .int 0:=by
    simp only[KTD.datumAt,BO]at e;repeat' split at e
    all_goals first|(cases e;exact .inl rfl)|(cases e;exact .inr rfl)|cases e
   rcases this with z|z<;>rw[z]<;>rfl
theorem qB:aT ["thing","over"] ["thing"] (ar gS):=⟨rfl,rfl,rfl,by decide+kernel,rfl,by decide+kernel,by decide+kernel⟩
theorem FW(D:Df K mg "binds_of" gS ["thing"])(M:Mg mg t){as:List Addr}(T:KD K t.yI jI as)(B:mf K t.j6 BO):bx P w K mg bF "binds_of" (1) ["thing"] By:=by
 refine D.ok qB (λvs H Q E h=>?_) (λbase f cZ A outer s H vs Q E S h=>?_);·obtain⟨x,ps,v,k,rfl,_⟩:=h;rfl
 obtain⟨x,ps,v,k,rfl,r,wf,q⟩:=h;obtain⟨a,us,rfl,ha,v0,us,rfl,⟨rfl,X⟩,G⟩:=r;have O:=G.length;have m:lX (V.str x::us) 0=some (.str x):=aL (j:=0) rfl;have o:bU K H a (.str x::us):=bU.of ha;obtain⟨Y,U,J,W,h4,hlen,L,_,d,F,u⟩:=bO wf;obtain⟨b,y,z⟩:=T.some F;have hn:(aB x ps).length<=4:=by
  unfold aB;split;·exact fW _
  ·rw[<-hlen];simpa using h4
 refine⟨_,(ah (aH (i:=1) qB.nd rfl (cq rfl) (OP (cM M.g_BINDER_OVER rfl) (aS aU (pv 0) ai (λ_ _=>rfl)) ⟨rfl,rfl,rfl,rfl⟩)) (ak (aw (nj (N':=["number","over"]) (own:=1) (fr:=[1]) rfl (j8 (N:=["thing","over"]) (sc:=ar gS) rfl rfl rfl (by decide+kernel)) (eR rfl M.ia (ae (bz bC rfl M.gE eK (ae (aae (cM M.g_KIDS_DUE rfl) (aS aU (pv 0) ai (λ_ _=>rfl)) (λ_ _=>rfl)) ag)) ag)) (gU (by decide)) (λ_ _ _=>(bJ (i:=0) (show List.Nodup (["number","over"]:List Str)by decide+kernel) rfl (Or.inl rfl))) (λ_ _ _=>nA) (λ_ _ _=>(jU (aA bQ (pv 0) (pv 1) (aR _)) ai ai)))))),?_⟩;try dsimp only[gV,I]
 refine qM ?_;intro _ _;refine⟨_,_,rfl,B,_,rfl,a,_,_,_,rfl,rfl,o,m,x,rfl,?_⟩;refine⟨_,rfl,a,_,_,_,rfl,rfl,o,m,_,_,x,_,rfl,rfl,T.tab,y,b,_,rfl, .inr (z H),_,rfl,(by show-(2^62)<=((d.length:Nat):Int);lia),(by show((d.length:Nat):Int)<2^62;lia),λp C=>Ay d.length (mm x) C (by rw[u];exact dJ hn (by decide)) (λi g hi s2=>⟨hi,?_⟩) λg s2 h2=>⟨bN _,?_⟩⟩
 ·rintro Z l⟨rfl,rfl⟩R n;have e0:(0:Int)+(i:Int)=((i:Nat):Int):=by lia
  rw[e0];refine⟨_,rfl,_,rfl,LQ x i,_,rfl,?_⟩;refine ba (λc=>?_) (λc=>?_)
  ·have e:mm x i= .int 1:=by unfold mm;exact if_pos c
   have :=n l (aQ.refl _);rw[e]at this;exact this
  ·have e:mm x i= .int 0:=by unfold mm;exact if_neg c
   have :=n l (aQ.refl _);rw[e]at this;exact this
 ·rw[u]at h2;exact q p g s2 h2
theorem yF(x:Str):∀ws:List Str,VG (.str x) (ws.map V.str)=decide (x∈ws)
 |[]=>rfl
 |y::ws=>by
  have a:=yF x ws;unfold VG at a⊢;rw[ff,List.any_cons,a];show(y==x||decide (x∈ws))=decide (x∈y::ws);by_cases e:y=x;·subst e;simp
  ·have e':¬x=y:=λz=>e z.symm;simp[e,e']
theorem oF:∀{ps:List D}{i:Nat}{p:D},ps[i]?=some p->depth p<=aN ps|[],_,_,e=>by simp at e|p::ps,0,_,e=>by simp at e;subst e;simp only[aN];lia|_::ps,i+1,p,e=>by have :=oF (ps:=ps) (i:=i) (by simpa using e);simp only[aN];lia
end K24
end
section
namespace L3
open PySem PySem.Spec PyProof.Rows L2 KM
theorem P_{prog:Program}{w:World}{A:Around}{E:Value->Shared->Prop}{s:Shared}{t b:Addr}{ws:List Value}{Q:Value->Shared->Prop}(ht:IsTup s.heap t (([]:List Value)).toArray)(hb:IsTup s.heap b ws.toArray)(h1:Q (.ref b) s):wpAny (model prog w) A (binaryOp .Add (.ref t) (.ref b)) Q E s:=by obtain⟨⟨cls,f,data,sl⟩,d,hc,n,hd⟩:=id ht;obtain⟨⟨j,g,data2,i⟩,e,a,h,c⟩:=id hb;simp only at hc hd a c;subst hc hd a c;exact concat_meets ⟨_,d,rfl⟩ ⟨_,e,rfl⟩ noFill_tuple_add seq_tuple_add PySem.F.slot_tuple_add PySem.F.entry_tuple_add (PySem.F.args_tuple_add_2 _ _) (tuple_addW0 t b _ ws.toArray n h f g sl i (by simp)) ⟨d,e,h1⟩
noncomputable def abl(K:PySem.W.Frag):R2:=λx y H Q=>∃a b xs c,x= .ref a/\y= .ref b/\bU K H a xs/\bU K H b c/\xs.length+c.length<=sizeLine/\(xs=[]->Q (.ref b) H)/\(xs≠[]->c=[]->Q (.ref a) H)/\(xs≠[]->c≠[]->∀p,H p=none->Q (.ref p) (upd H p (.tup (xs++c))))
theorem Ud{X:Cx}:ke X (binaryOp .Add) (abl X.K):=by
 intro pins s σ H x y v u Q I d f h;obtain⟨a,b,xs,m,rfl,rfl,ha,hb,g,q0,q1,q2⟩:=h;by_cases c:xs=[];·cases d;cases f;subst c;obtain⟨i,l,j,_⟩:=I.tuple ha;obtain⟨n,o,k,_⟩:=I.tuple hb;have e:i=[]:=l.uB.mpr rfl;subst e;exact P_ j k ⟨.ref b,H,I,rfl,q0 rfl⟩
 ·exact Tx pins s σ H _ _ v u Q I d f ⟨a,b,xs,m,rfl,rfl,ha,hb,c,g,q1 c,q2 c⟩
theorem SE.imp{X:Cx}{r a:V->Option Int->Option Int->Hp->VK->Prop}(h:SE X r)(i:∀x lo hi H Q,a x lo hi H Q->r x lo hi H Q):SE X a:=by intro a1 a2 a3 a4 a5 a6 a7 a8 a9 b1 b2 b3 b;intros;apply h<;>first|assumption|(apply i;assumption)
noncomputable def afb:V->Option Int->Option Int->Hp->VK->Prop:=λx lo hi H Q=>∃a xs,x= .ref a/\H a=some (.tup xs)/\∀b H',aQ H H'->H' b=some (.tup (gJ xs lo hi))->Q (.ref b) H'
theorem Js{X:Cx}:SE X afb:=SE.imp Cf λx lo hi H Q⟨a,xs,e,h,q⟩=>⟨a,xs,e,bU.of h,λp b=>q p _ (ao b _) aj,λz=>q a H (aQ.refl H) (by rw[z];exact h)⟩
noncomputable def V2:R2:=λx y H Q=>∃a b xs c,x= .ref a/\y= .ref b/\H a=some (.tup xs)/\H b=some (.tup c)/\xs.length+c.length<=sizeLine/\∀p H',aQ H H'->H' p=some (.tup (xs++c))->Q (.ref p) H'
theorem vK{X:Cx}:ke X (binaryOp .Add) V2:=by
 intro pins s σ H x y v u Q I f g h;obtain⟨a,b,xs,i,rfl,rfl,ha,hb,d,q⟩:=h;refine Ud pins s σ H _ _ v u Q I f g ⟨a,b,xs,i,rfl,rfl,bU.of ha,bU.of hb,d,λe=>?_,λ_ e=>?_,λ_ _ p c=>q p _ (ao c _) aj⟩;·subst e;exact q b H (aQ.refl H) hb
 ·subst e;exact q a H (aQ.refl H) (by rw[lV];exact ha)
mutual theorem Rep.iG{H:Hp}{p:Addr}{xs:List V}{o:HO}(h:H p=some (.lst xs)):∀{d:D}{v:V},Rep H d v->Rep (upd H p o) d v| .a_,_,r=>r| .bl _,_,r=>r| .int _,_,r=>r| .str _,_,r=>r| .tup _,_,⟨a,vs,e,q,r⟩=>⟨a,vs,e,by rw[aY (WH q h (by simp))];exact q,bg.iG h r⟩theorem bg.iG{H:Hp}{p:Addr}{xs:List V}{o:HO}(h:H p=some (.lst xs)):∀{ds:List D}{vs:List V},bg H ds vs->bg (upd H p o) ds vs|[],_,r=>r|_::_,_,⟨v,r,e,q,t⟩=>⟨v,r,e,Rep.iG h q,bg.iG h t⟩end
theorem LJ{J:It}{p:Addr}{h:Hp}{g:TG}{s:TE}{b:L2.St}{C:Hp->Prop}(n:Nat)(f:Nat->D)(r:h p=none)(hn:n<=sizeLine)(w:∀i a,i<n->aQ h a->J.go i a/\∀x d,J.yW i a x d->∀(R:V->Hp->Prop),(∀v e,aQ a e->Rep e (f i) v->R v e)->g x b d λl o=>s l o R)(hd:∀c a,aQ h a->a p=some (.lst c)->bg a ((List.range n).map f) c->J.stop n a/\C a):∃W:Nat->Nat->List V->Hp->Prop,(∃m,W 0 m [] (upd h p (.lst [])))/\∀i m c a,W i m c a->(J.stop i a/\C a)\/(J.go i a/\∀x d,J.yW i a x d->g x b d λl o=>BW l o λok q=>if ok=true then s l q λv e=>e p=some (.lst c)/\c.length<sizeLine/\∃j,j<m/\W (i+1) j (c++[v]) (upd e p (.lst (c++[v])))else∃j,j<m/\W (i+1) j c q):=by
 refine kP (Q:=λ_ H=>C H) n (λi c a=>bg a ((List.range i).map f) c/\a p=some (.lst c)/\aQ h a) ⟨rfl,aj,ao r _⟩ ?_ ?_;·rintro i c a hi⟨rr,h2,s2⟩;obtain⟨t,u⟩:=w i a hi s2;refine⟨t,λx d y=>?_⟩;simp only[BW,if_true];have hl:=rr.length;rw[cV,List.length_range]at hl;refine u x d y _ λv e k z=>⟨k _ _ h2,by lia,nx hi ⟨?_,aj,eB (s2.trans k) r⟩⟩;rw[List.range_succ,mH];exact((rr.mono k).iG (k _ _ h2)).append (bg.one (z.iG (k _ _ h2)))
 ·rintro c a⟨rr,h2,s2⟩;exact hd c a s2 h2 rr
end L3
end
section
namespace L3
open PySem PySem.Spec PyProof.Rows L2
theorem _root_.L2.da.mark{j:Nat}{A:Around}{h:Option Value}(r:da j A)(a:j<130:=by decide):da j (A.mark h):=⟨r.dp,r.un,λz=>absurd a (Nat.not_lt.mpr z)⟩
end L3
end
section
namespace L3
open PySem PySem.Spec PyProof.Rows L2 KM
end L3
end
section
namespace K24
open PySem L2 L3 KM PyProof.Rows
seal L2.PE L2.PS L2.iO L2.PT L2.PW L2.PA L2.PG L2.Bu L2.PI L2.PC L2.PO L2.AY L2.PK L3.A8
variable{P:Program}{w:World}{K:PySem.W.Frag}{mg:Str->Option Value}{base:Heap}{t:xV}
mutual noncomputable def plc:D->List (List Nat)| .tup (.str x::ps)=>[]::(if dX x=true then[]else aa9 0 ps)|_=>[]noncomputable def aa9:Nat->List D->List (List Nat)|_,[]=>[]|i,d::ds=>(plc d).map (i::·)++aa9 (i+1) ds end
theorem take_snoc{l:List D}{i:Nat}{d:D}(h:l[i]?=some d):l.take (i+1)=l.take i++[d]:=by rw[List.take_add_one,h];rfl
noncomputable def plD(pl:List Nat):D:= .tup (pl.map λi=> .int (i:Nat))
theorem LI{b d:Type}(g:b->d)(z:b)(l:List b):(List.range l.length).map (λj=>g ((l[j]?).getD z))=l.map g:=by induction l with|nil=>rfl|cons a l c=>rw[bS,List.range_succ_eq_map,ff,List.map_map,ff,<-c];rfl
theorem cG{a:D->Bool}{k:Bool}:∀{d:D},bu a k d=true->∃x ps,d= .tup (.str x::ps)| .tup (.str x::ps),_=>⟨x,ps,rfl⟩| .tup [],h=>by simp[bu]at h| .tup (.a_::_),h=>by simp[bu]at h| .tup (.bl _::_),h=>by simp[bu]at h| .tup (.int _::_),h=>by simp[bu]at h| .tup (.tup _::_),h=>by simp[bu]at h| .a_,h=>by simp[bu]at h| .bl _,h=>by simp[bu]at h| .int _,h=>by simp[bu]at h| .str _,h=>by simp[bu]at h
theorem Kp{a:D->Bool}:∀{cs:List Nat}{ps:List D}{i:Nat}{p:D},eh a cs ps=true->(∀c∈cs,c=107\/c=116)->ps[i]?=some p->∃k,bu a k p=true
 |[],[],_,_,_,_,e=>by simp at e
 |[],_::_,_,_,h,_,_=>by simp[eh]at h
 |_::_,[],_,_,h,_,_=>by simp[eh]at h
 |c::cs,q::ps,0,p,h,hc,e=>by
  simp at e;subst e;rw[aP,cW]at h;have h1:=h.1;unfold dv at h1;rcases hc c eD with z|z;·rw[z,if_pos rfl]at h1;exact⟨true,h1⟩
  ·rw[z,if_neg (by decide),if_pos rfl]at h1;exact⟨false,h1⟩
 |c::cs,q::ps,i+1,p,h,hc,e=>by rw[aP,cW]at h;exact Kp (i:=i) h.2 (λc b=>hc c (eA _ b)) (by simpa using e)
theorem jJ{k:Bool}{x:Str}{ps:List D}{i:Nat}{p:D}(h:bu ay k (.tup (.str x::ps))=true)(e:(aB x ps)[i]?=some p):(∃k,bu ay k p=true)/\depth p<depth (.tup (.str x::ps)):=by
 obtain⟨s,h1,h2,h3,h4,h5,h6,a,_⟩:=bO h;unfold aB at e;split at e;·simp at e
 ·rename_i b;refine⟨Kp h3 (a (by simpa using b)) e,?_⟩;have :=oF e;simp only[depth,aN];lia
theorem J_{k:Bool}{x:Str}{ps:List D}(h:bu ay k (.tup (.str x::ps))=true):(aB x ps).length<=4:=by
 obtain⟨s,h1,h2,h3,h4,h5,h6,a,_⟩:=bO h;unfold aB;split;·exact fW _
 ·rw[<-h5];simpa using h4
structure Rt(d:D)(n:Nat):Prop where
 wf:∃k,bu ay k d=true
 dp:depth d<n
 ct:(plc d).length<=2000000
 n60:n<=60
theorem oI{a:D->Bool}{d0 b:D}(c:bu a false d0=true)(h1:bu a false b=true):bu a false (.tup [.str "app",d0,b])=true:=by refine c_ (w:="app") (s:="tt") (by decide+kernel) (by decide+kernel) ?_;rw[show(Str.ofString "tt").cps.toList=[116,116]by decide+kernel,aP,aP];simp[dv,eh,c,h1]
theorem Qq{a:D->Bool}{d0 b:D}(c:bu a true d0=true)(h1:bu a false b=true):bu a false (.tup [.str "fun",d0,b])=true:=by refine c_ (w:="fun") (s:="kt") (by decide+kernel) (by decide+kernel) ?_;rw[show(Str.ofString "kt").cps.toList=[107,116]by decide+kernel,aP,aP];simp[dv,eh,c,h1]
theorem Tn{a:D->Bool}{d0 b c:D}(d:bu a true d0=true)(h1:bu a false b=true)(h2:bu a false c=true):bu a true (.tup [.str "same",d0,b,c])=true:=by refine c_ (w:="same") (s:="ktt") (by decide+kernel) (by decide+kernel) ?_;rw[show(Str.ofString "ktt").cps.toList=[107,116,116]by decide+kernel,aP,aP,aP];simp[dv,eh,d,h1,h2]
theorem AZ{a:D->Bool}{d0 b c d:D}(e:bu a true d0=true)(h1:bu a false b=true)(h2:bu a false c=true)(h3:bu a false d=true):bu a false (.tup [.str "rec",d0,b,c,d])=true:=by refine c_ (w:="rec") (s:="kttt") (by decide+kernel) (by decide+kernel) ?_;rw[show(Str.ofString "kttt").cps.toList=[107,116,116,116]by decide+kernel,aP,aP,aP,aP];simp[dv,eh,e,h1,h2,h3]
theorem EL{a:D->Bool}{d0 b c:D}(d:bu a true d0=true)(h1:bu a false b=true)(h2:bu a false c=true):bu a false (.tup [.str "carry",d0,b,c])=true:=by refine c_ (w:="carry") (s:="ktt") (by decide+kernel) (by decide+kernel) ?_;rw[show(Str.ofString "ktt").cps.toList=[107,116,116]by decide+kernel,aP,aP,aP];simp[dv,eh,d,h1,h2]
theorem FO{a:D->Bool}{d0 b:D}(c:bu a true d0=true)(h1:bu a true b=true):bu a true (.tup [.str "all",d0,b])=true:=by refine c_ (w:="all") (s:="kk") (by decide+kernel) (by decide+kernel) ?_;rw[show(Str.ofString "kk").cps.toList=[107,107]by decide+kernel,aP,aP];simp[dv,eh,c,h1]
theorem IJ{a:D->Bool}{d0 b:D}(c:bu a true d0=true)(h1:bu a true b=true):bu a true (.tup [.str "some",d0,b])=true:=by refine c_ (w:="some") (s:="kk") (by decide+kernel) (by decide+kernel) ?_;rw[show(Str.ofString "kk").cps.toList=[107,107]by decide+kernel,aP,aP];simp[dv,eh,c,h1]
theorem ER{a:D->Bool}{d0:D}(b:bu a false d0=true):bu a false (.tup [.str "first",d0])=true:=by refine c_ (w:="first") (s:="t") (by decide+kernel) (by decide+kernel) ?_;rw[show(Str.ofString "t").cps.toList=[116]by decide+kernel,aP];simp[dv,eh,b]
theorem Qx{a:D->Bool}{d0 b:D}(c:bu a true d0=true)(h1:bu a false b=true):bu a false (.tup [.str "never",d0,b])=true:=by refine c_ (w:="never") (s:="kt") (by decide+kernel) (by decide+kernel) ?_;rw[show(Str.ofString "kt").cps.toList=[107,116]by decide+kernel,aP,aP];simp[dv,eh,c,h1]
theorem Cb{a:D->Bool}:bu a true (.tup [.str "nat"])=true:=by refine c_ (w:="nat") (s:="") (by decide+kernel) (by decide+kernel) ?_;rw[show(Str.ofString "").cps.toList=[]by decide+kernel];simp[dv,eh]
theorem jq{a:D->Bool}:bu a false (.tup [.str "zero"])=true:=by refine c_ (w:="zero") (s:="") (by decide+kernel) (by decide+kernel) ?_;rw[show(Str.ofString "").cps.toList=[]by decide+kernel];simp[dv,eh]
theorem wU{a:D->Bool}{d0:D}(b:bu a false d0=true):bu a false (.tup [.str "next",d0])=true:=by refine c_ (w:="next") (s:="t") (by decide+kernel) (by decide+kernel) ?_;rw[show(Str.ofString "t").cps.toList=[116]by decide+kernel,aP];simp[dv,eh,b]
theorem dQ{H:Hp}{p:Addr}{ds:List D}{vs:List V}(a:H p=none)(r:bg H ds vs):Rep (upd H p (.tup vs)) (.tup ds) (.ref p):=⟨p,vs,rfl,aj,r.mono (ao a _)⟩
theorem rs{H:Hp}{d:D}{v:V}{ds:List D}{vs:List V}(r:Rep H d v)(t:bg H ds vs):bg H (d::ds) (v::vs):=⟨v,vs,rfl,r,t⟩
theorem r0{H:Hp}:bg H [] []:=rfl
theorem gY{H:Hp}{x:Str}(h:x.length<=1000:=by decide):Rep H (.str x) (.str x):=⟨rfl,h⟩
theorem ri{H:Hp}{i:Int}:Rep H (.int i) (.int i):=rfl
structure Th(d:D)(dp kn:Nat):Prop where
 wf:bu ay false d=true
 dp:depth d<=dp
 kn:aG d<=kn
def Wf(d:D):Prop:=∃k,bu ay k d=true
theorem jK{d:D}(h:Wf d):∃x ps k,d= .tup (.str x::ps)/\bu ay k d=true/\ps.length<=10:=by obtain⟨k,h⟩:=h;obtain⟨x,ps,rfl⟩:=cG h;obtain⟨a,_,_,_,h4,h5,_⟩:=bO h;refine⟨x,ps,k,rfl,h,?_⟩;rw[<-h5];exact dJ (by simpa using h4) (by decide)
end K24
end
section
namespace L3
open PySem PySem.Spec PyProof.Rows L2 KM
theorem Md{J:It}{p:Addr}{h:Hp}{g:TG}{w:TE}{b:L2.St}{C:Hp->Prop}(n:Nat)(B:Nat->Int->Prop)(t:h p=none)(hn:n<=sizeLine)(E:∀i a,i<n->aQ h a->J.go i a/\∀x d,J.yW i a x d->∀(R:V->Hp->Prop),(∀(z:Int)f,aQ a f->B i z->R (.int z) f)->g x b d λl o=>w l o R)(hd:∀(ns:List Int)a,aQ h a->ns.length=n->(∀(i:Nat)(z:Int),ns[i]?=some z->B i z)->a p=some (.lst (ns.map V.int))->J.stop n a/\C a):∃W:Nat->Nat->List V->Hp->Prop,(∃m,W 0 m [] (upd h p (.lst [])))/\∀i m c a,W i m c a->(J.stop i a/\C a)\/(J.go i a/\∀x d,J.yW i a x d->g x b d λl o=>BW l o λok s=>if ok=true then w l s λv f=>f p=some (.lst c)/\c.length<sizeLine/\∃k,k<m/\W (i+1) k (c++[v]) (upd f p (.lst (c++[v])))else∃k,k<m/\W (i+1) k c s):=by
 refine kP (Q:=λ_ H=>C H) n (λi c a=>∃ns:List Int,c=ns.map V.int/\ns.length=i/\(∀(j:Nat)(z:Int),ns[j]?=some z->B j z)/\a p=some (.lst c)/\aQ h a) ⟨[],rfl,rfl,λj z e=>by simp at e,aj,ao t _⟩ ?_ ?_
 ·rintro i c a hi⟨ns,rfl,hl,r,h2,s2⟩;obtain⟨A,D⟩:=E i a hi s2;refine⟨A,λx d y=>?_⟩;simp only[BW,if_true];refine D x d y _ λz f u G=>⟨u _ _ h2,by rw[cV];lia,nx hi ⟨ns++[z],by simp,by simp[hl],λj y e=>?_,aj,eB (s2.trans u) t⟩⟩;by_cases F:j<ns.length;·rw[EZ F]at e;exact r j y e
  ·rw[List.getElem?_append_right (by lia)]at e;have :j-ns.length=0:=by
    by_cases q:j-ns.length=0;·exact q
    ·rw[List.getElem?_eq_none (by simp;lia)]at e;cases e
   rw[this]at e;simp at e;subst e;have :j=i:=by lia
   rw[this];exact G
 ·rintro c a⟨ns,rfl,hl,r,h2,s2⟩;exact hd ns a s2 hl r h2
end L3
end
section
namespace L3
open PySem PySem.Spec PyProof.Rows L2
theorem BK{X:Cx}{ix:Nat}{x:Str}{pos' apos:Pos}{tg iter G:Expr}{K:List Expr}{scope:Scope}{pos:Pos}{wi:TI}{g:TG}{tt:TT}{te:TE}{N':List Str}{own:Nat}{fr:List Nat}(hN:X.N.Nodup)(hix:X.N[ix]?=some x)(hlx:X.env.scope.names.lookup x=some .local)(hc:X.calm=true)(S:nH X N' own fr scope)(hi:PI X tg iter wi)(ho:Own own g)(hg:∀E B fp,PG (d9 X N' scope E B fp) tg g)(hf:∀E B fp,A8 (d9 X N' scope E B fp) K tt)(he:∀E B fp,PE (d9 X N' scope E B fp) G te)(hsw:swapsWithSole [.Name x pos'] (.ListComp G [⟨tg,iter,K,0⟩] scope pos) apos.line X.env=pure true:=by rfl)(hs:∀x,foldedSetIterable iter X.env x=pure x:=by intro _;rfl):PS X (.Assign [.Name x pos'] (.ListComp G [⟨tg,iter,K,0⟩] scope pos) apos) (YR (VQ own fr wi g tt te) (n8 ix)):=by
 intro pins s σ H D I h;have GU:∀x∈scope.names,x.2= .free->∃c,X.env.cells.lookup x.1=some c:=λx hx e=>I.ok.has x.1 (S.free x hx e);rw[exec_Assign_arm];refine az (wpAny_standAt (az (wpAny_of_eq hsw ?_)));rw[if_pos rfl,arm_evalThenUse_ListComp];refine az (az (gg (Q:=λ_ s'=>SP X pins D .next s') ?_ (λ_ s' q=>bA (bA q)) λ_ _ z=>z));refine wpAny_comprehension_free (use:=some _) (Q:=λ_ s'=>SP X pins D .next s') rfl hs (xf GU) S.kind S.loc ?_;refine b9 (hi pins s σ H _ I h) λv s1 h1=>b9 h1 λitv s2 h2=>?_;obtain⟨it,fp,tn,J,d,e,I2,T,XJ,f2,h2⟩:=h2;subst e;refine wpAny_newObj_type (hd:=by size_fits) (wpAny_newFunctionEnv S.oz (by intro y hy;simp at hy) (λh4 U Z=>?_) S.kind);have hp0:=I2.cj.fresh (bN s2.heap.objs.size);obtain⟨W,⟨m0,w0⟩,turn⟩:=h2 _ hp0;have k:Inv X pins σ (upd d s2.heap.objs.size (.lst [])) {s2 with heap:=s2.heap.push {cls:= .type "list",dict:=none,data:= .seq ([]:List Value).toArray},toks:=s2.toks}:=I2.Sj .nil (fW _);have lt2:∀b∈fp,b<s2.heap.objs.size:=λb hb=>let⟨o,e,_⟩:=T.obj _ _ XJ b hb;b_ e;have up2:∀b o,s2.heap.get? b=some o->∀ob:Obj,(s2.heap.push ob).get? b=some o:=λb o e ob=>cf _ e;have sz3:(s2.heap.push {cls:= .type "list",dict:=none,data:= .seq ([]:List Value).toArray}).objs.size=s2.heap.objs.size+1:=Heap.size_push ..;revert U Z k;generalize e3:s2.heap.push {cls:= .type "list",dict:=none,data:= .seq ([]:List Value).toArray}=h3 at sz3⊢;intro U Z k;have keep:∀b o,h3.get? b=some o->h4.get? b=some o:=λb o e=>(Z.2 b (eN (b_ e))).trans (cf _ e);have P:∀b∈fp,m9 X pins (upd d s2.heap.objs.size (.lst [])) b/\b<h3.objs.size:=λb hb=>by refine⟨⟨?_,(f2 b hb).2⟩,by rw[sz3];exact Nat.lt_succ_of_lt (lt2 b hb)⟩;rw[aY (eN (lt2 b hb))];exact(f2 b hb).1
 have F:=JW (t4:=s2.toks+([]:List (Str×Value)).length) S k P keep U;have YY:tn 0 h4:=T.keep _ _ _ XJ λb hb o e=>keep b o (by rw[<-e3];exact up2 b o e _);have yg:∀{H':Hp},(∀b∈fp,H' b=none)->∀b∈fp,m9 (d9 X N' scope {s2 with heap:=h3,toks:=s2.toks} (upd d s2.heap.objs.size (.lst [])) fp) [] H' b:=λ{H'}hn b hb=>⟨hn b hb,eN (P b hb).2,λz=>F.ok.Ct b hb z, .inl hb,(F.ok.Yg b hb).2,λp V=>(f2 b hb).2.2.2.2.2 p (oU _ (by simpa using V))⟩;have loop:∀sx:Shared,Inv (d9 X N' scope {s2 with heap:=h3,toks:=s2.toks} (upd d s2.heap.objs.size (.lst [])) fp) [] (ic own fr σ) (upd d s2.heap.objs.size (.lst [])) sx->tn 0 sx.heap->codeAny (model X.prog X.w) X.A (.compLoop (.ListComp G [⟨tg,iter,K,0⟩] scope pos) 0 (.ref it) (.ref s2.heap.objs.size) (GY X scope h3.objs.size)) (compPost (model X.prog X.w) X.A X.xe (some λv=>assignAll v ((assignEach [.Name x pos'] X.env).map (·.2))) (λ_ s'=>SP X pins D .next s') (.ref s2.heap.objs.size) h3.objs.size) sx:=by
  intro sx Ix tx;refine qi (λn s'=>∃i t H',Inv (d9 X N' scope {s2 with heap:=h3,toks:=s2.toks} (upd d s2.heap.objs.size (.lst [])) fp) [] (ic own fr σ) H' s'/\tn i s'.heap/\(∀b∈fp,H' b=none)/\W i n t H') ?_ m0 ⟨0,[],_,Ix,tx,λb hb=>(P b hb).1.1,w0⟩;rintro n s5⟨i,t,C,I5,SK,ZS,w5⟩;rcases turn i n t C w5 with⟨stop,qn⟩|⟨go,step⟩
  ·refine b9 (T.done (d9 X N' scope {s2 with heap:=h3,toks:=s2.toks} (upd d s2.heap.objs.size (.lst [])) fp) rfl rfl rfl hc i [] s5 _ C (λ_ _=>False) I5 (yg ZS) SK stop) λr L a=>?_;obtain⟨Y,w⟩:=a;subst Y;obtain⟨m6,hm6,_⟩:=id w.loc;have N:Inv X pins σ C L:=k.Py (s':=L) (ch:=fp) w.os (yA (h2:=L.heap) w.base (bN _) ⟨rfl,λ_ _=>rfl⟩) w.cj w.bare λb hb=>⟨(f2 b hb).2.2.2.1,(f2 b hb).2.1,(f2 b hb).2.2.2.2.1,(f2 b hb).2.2.2.2.2⟩;show wpAny _ _ (assign (.Name x pos') X.env (.ref s2.heap.objs.size)) _ _ _;refine wpAny_assign_Name (Ad (v:= .ref s2.heap.objs.size) N hN hix (.inl hlx) rfl (λs8 O a=>?_) (.inr hlx));obtain⟨a8,sb8,ha8⟩:=a;have ltc:∀y c,X.env.cells.lookup y=some c->c<h3.objs.size:=λy c e=>by obtain⟨v,o,eo,_⟩:=k.cell y c e;exact b_ eo
   have na8:h3.objs.size≠a8:=by
    rcases ha8 with z|z;·rw[z];exact Nat.ne_of_gt k.lt
    ·exact Nat.ne_of_gt (ltc _ _ z)
   obtain⟨o6,es6,ep6,ho6,r6⟩:=hm6;refine⟨m6,⟨o6,es6,ep6,(sb8.2 _ na8).trans ho6,r6⟩,λh9 hs9=>?_⟩;have l:=O.turned (h':=h9) (t':=s8.toks) (it:=h3.objs.size) (λb o hb e=>(hs9.2 b hb).trans e) w.free (Nat.ne_of_gt k.lt) (.inr k.sz) (λy c e=>eN (ltc y c e)) λp V=>eN (b_ (k.pin p V).1);exact⟨_,C,l,qn⟩
  ·refine b9 (T.item (d9 X N' scope {s2 with heap:=h3,toks:=s2.toks} (upd d s2.heap.objs.size (.lst [])) fp) rfl rfl rfl hc i [] s5 _ C (λ_ _=>False) I5 (yg ZS) SK go) λr L a=>?_;obtain⟨u,Y,h6⟩:=a;subst Y;refine b9 h6 λ_ s7 a=>?_;obtain⟨x,H7,N,r7,y7,Zi,fr7⟩:=a;have I7':=N.pinned (yg fr7) (T.obj _ _ Zi);refine b9 (hg _ _ _ _ s7 _ H7 x u _ I7' r7 (ho _ _ _ _ (step x H7 y7))) λ_ s8 a=>?_;obtain⟨M,H8,O,q8,l8,k8⟩:=a;have again:∀{m:Hp}{A:Shared},Inv (d9 X N' scope {s2 with heap:=h3,toks:=s2.toks} (upd d s2.heap.objs.size (.lst [])) fp) ([]++oH fp s7.heap) M m A->Inv (d9 X N' scope {s2 with heap:=h3,toks:=s2.toks} (upd d s2.heap.objs.size (.lst [])) fp) [] (ic own fr σ) m A/\tn (i+1) A.heap/\∀b∈fp,m b=none:=λ{m A}l=>by
    refine⟨l.j9.weak l8.symm λj v e=>?_,T.keep _ _ _ Zi λb hb o e=>(l.pin (b,o) (jR _ (jR _ (fB hb e)))).1,λb hb=>?_⟩
    ·have hj:own<=j:=by refine Nat.le_of_not_lt λz=>?_;unfold ic at e;rw[EZ (by simpa using z),List.getElem?_replicate]at e;split at e<;>cases e
     rw[k8 j hj];exact e
    ·obtain⟨o,e,_⟩:=T.obj _ _ Zi b hb;exact(l.pin (b,o) (jR _ (jR _ (fB hb e)))).2.1
   refine b9 (hf _ _ _ _ s8 M H8 _ O q8) λok A a=>?_;obtain⟨m,l,q9⟩:=a;cases ok with|false=>obtain⟨m',R,w9⟩:=q9;obtain⟨a1,a2,a3⟩:=again l;exact⟨m',R,i+1,t,m,a1,a2,a3,w9⟩|true=>refine b9 (he _ _ _ _ A M m _ l q9) λy Nj a=>?_;obtain⟨v,PN,I10,r10,Xz,Z1,m',R,w10⟩:=a;refine b9 (iA _ Nj M PN (.ref s2.heap.objs.size) [v] (.ref s2.heap.objs.size) [y] (λ_ Hn=>Hn=upd PN s2.heap.objs.size (.lst (t++[v]))) I10 rfl (.cons r10 .nil) ⟨_,t,v,rfl,rfl,Xz,Z1,rfl⟩) λ_ UA a=>?_;obtain⟨_,H11,I11,_,e11⟩:=a;subst e11;obtain⟨a1,a2,a3⟩:=again I11;exact⟨m',R,i+1,t++[v],_,a1,a2,a3,w10⟩
 exact codeAny_compStart_list (loop _ F YY) (gg (T.self X.A 0 _ (λv s'=>v= .ref it/\s'=_) (λ_ _=>False) YY ⟨rfl,rfl⟩) (λv s'⟨e1,e2⟩=>by subst e1;subst e2;exact loop _ F YY) λ_ _ f=>f.elim)
end L3
end
section
namespace L3
open PySem PySem.Spec PyProof.Rows L2 KM
theorem K_(a b:Int):FA (.int a) (.int b)=decide (a=b):=by rw[Bool.eq_iff_iff];simp[FA]
theorem all_ints(a ns:List Int)(h:a.length=ns.length):((List.range a.length).all λj=>FA (((a.map V.int)[j]?).getD .a_) (((ns.map V.int)[j]?).getD .a_))=decide (a=ns):=by
 rw[Bool.eq_iff_iff,List.all_eq_true,decide_eq_true_iff];constructor;·intro z;apply List.ext_getElem h;intro j h1 h2;have :=z j (List.mem_range.mpr h1);rw[jP,jP,dD h1,dD h2]at this;have :FA (.int a[j]) (.int ns[j])=true:=this;rw[K_]at this;exact of_decide_eq_true this
 ·rintro rfl j b;have h1:=List.mem_range.mp b;rw[jP,dD h1];show FA (.int a[j]) (.int a[j])=true;rw[K_];exact decide_eq_true rfl
noncomputable def acY(K:PySem.W.Frag):R2:=λx y H Q=>∃(p q:Addr)(a ns:List Int),x= .ref p/\y= .ref q/\bU K H p (a.map V.int)/\bU K H q (ns.map V.int)/\Q (.bl (decide (a=ns))) H
theorem Up{a ns:List Int}{b c:List Value}(d:b.length=(a.map V.int).length)(e:c.length=(ns.map V.int).length):((List.range (min b.toArray.size c.toArray.size)).all (λj=>FA (((a.map V.int)[j]?).getD .a_) (((ns.map V.int)[j]?).getD .a_))&&b.toArray.size==c.toArray.size)=decide (a=ns):=by
 rw[c8,c8,d,e,cV,cV];by_cases h:a.length=ns.length;·rw[<-h,Nat.min_self,all_ints a ns h];simp
 ·have e1:(a.length==ns.length)=false:=by simpa using h
  rw[e1,Bool.and_false];exact(decide_eq_false λz=>h (by rw[z])).symm
theorem zU(a:List Int):∀x∈a.map V.int,mQ x=true:=λx h=>by obtain⟨i,_,rfl⟩:=List.mem_map.mp h;rfl
theorem W4{X:Cx}(E:X.A.units+1<cLine):ke X (compareOp .Eq) (acY X.K):=by
 intro pins s σ H x y v u Q I A B h;obtain⟨p,q,a,ns,rfl,rfl,n,o,h⟩:=h;cases A;cases B;obtain⟨d,l,w,_⟩:=I.tuple n;obtain⟨f,m,z,_⟩:=I.tuple o;have g:=l.length;have k:=m.length;refine SeqAt.eq_tupleAt w z (e:=λj=>FA (((a.map V.int)[j]?).getD .a_) (((ns.map V.int)[j]?).getD .a_)) (by lia) (λj h1 h2=>?_) ⟨.bl _,H,I,rfl,?_⟩
 ·have b:j<(a.map V.int).length:=by simpa[g]using h1
  have c:j<(ns.map V.int).length:=by simpa[k]using h2
  obtain⟨C,e1,k1⟩:=l.get (i:=j) (x:=(a.map V.int)[j]) (dD b);obtain⟨D,e2,k2⟩:=m.get (i:=j) (x:=(ns.map V.int)[j]) (dD c);have r:d.toArray[j]=C:=by
   have :d[j]?=some d.toArray[j]:=by simp
   rw[e1]at this;exact(Option.some.inj this).symm
  have t:f.toArray[j]=D:=by
   have :f[j]?=some f.toArray[j]:=by simp
   rw[e2]at this;exact(Option.some.inj this).symm
  rw[r,t];simp only[dD b,dD c,Option.getD_some];exact RH k1 k2 (zU a _ (List.getElem_mem b)) (zU ns _ (List.getElem_mem c))
 ·rw[Up g.symm k.symm];exact h
theorem SQ{X:Cx}{K:PySem.W.Frag}(b:X.A.units+1<cLine)(a:X.K=K:=by rfl):ke X (compareOp .Eq) (acY K):=by subst a;exact W4 b
end L3
end
section
namespace K24
open PySem L2 L3 KM PyProof.Rows
seal L2.PE L2.PS L2.iO L2.PT L2.PW L2.PA L2.PG L2.Bu L2.PI L2.PC L2.PO L2.AY L2.PK L3.A8
variable{P:Program}{w:World}{K:PySem.W.Frag}{mg:Str->Option Value}{base:Heap}{t:xV}
structure Tp(K:PySem.W.Frag)(a p:Addr)(ns:List Int)(H:Hp)(i:Int):Prop where
 src:(a≠p/\Rd H a (.lst (ns.map V.int)))\/∀H':Hp,bE K H' a (ns.map V.int)
 len:ns.length<=63
 dq:H p=some (.lst [.int i])
 i0:0<=i
theorem Tp.scr{a p:Addr}{ns:List Int}{H:Hp}{i:Int}(T:Tp K a p ns H i)(H':Hp)(s:bD p H H'):bE K H' a (ns.map V.int):=by
 rcases T.src with⟨n,h|⟨o,h⟩⟩|h;·exact .inl (.inl (s _ _ n h))
 ·exact .inl (.inr ⟨o,s _ _ n h⟩)
 ·exact h H'
theorem Tp.next{a p:Addr}{ns:List Int}{H H':Hp}{i j:Int}(T:Tp K a p ns H i)(s:bD p H H')(h:H' p=some (.lst [.int j]))(b:0<=j):Tp K a p ns H' j:=⟨by
 rcases T.src with⟨n,h|⟨o,h⟩⟩|h;·exact .inl ⟨n, .inl (s _ _ n h)⟩
 ·exact .inl ⟨n, .inr ⟨o,s _ _ n h⟩⟩
 ·exact .inr h,T.len,h,b⟩
theorem Tp.upd{a p b:Addr}{ns:List Int}{H:Hp}{i:Int}{aF:List (Key×V)}{o:HO}(T:Tp K a p ns H i)(hb:H b=some (.dK aF)):Tp K a p ns (L2.upd H b o) i:=by
 refine⟨?_,T.len,?_,T.i0⟩
 ·rcases T.src with⟨n,h|⟨o,h⟩⟩|h;·exact .inl ⟨n, .inl (by rw[aY (λz=>by rw[z,hb]at h;cases h)];exact h)⟩
  ·exact .inl ⟨n, .inr ⟨o,by rw[aY (λz=>by rw[z,hb]at h;cases h)];exact h⟩⟩
  ·exact .inr h
 ·rw[aY (λz=>by have :=T.dq;rw[z,hb]at this;cases this)];exact T.dq
theorem Tp.mono{a p:Addr}{ns:List Int}{H H':Hp}{i:Int}(T:Tp K a p ns H i)(s:aQ H H'):Tp K a p ns H' i:=T.next s.x (s _ _ T.dq) T.i0
theorem Tp.rep{a p:Addr}{ns:List Int}{H H':Hp}{i:Int}{d:D}{v:V}(T:Tp K a p ns H i)(s:bD p H H')(r:Rep H d v):Rep H' d v:=r.fJ s λvs z=>by rw[T.dq]at z;cases z
def d_(K:PySem.W.Frag):Sp:=λvs H Q _=>∃(a p:Addr)(ns:List Int)(i m:Int),vs=[.ref a, .ref p, .int m]/\Tp K a p ns H i/\i<2^60/\0<m/\∀(z:Int)(H':Hp),0<=z->z<m->bD p H H'->H' p=some (.lst [.int (i+1)])->Q (.int z) H'
theorem ij:aT ["_law_script","_law_tape","_law_many","_law_seed","_law_cell"] Bi (ar jr):=⟨rfl,rfl,rfl,by decide+kernel,rfl,by decide+kernel,by decide+kernel⟩
theorem Hl(D:Df K mg "_law_draw" jr Bi)(M:Mg mg t):bx P w K mg bF "_law_draw" (1) Bi (d_ K):=by
 refine D.ok ij (λvs H Q E h=>?_) (λbase f cZ A outer s H vs Q E G h=>?_);·obtain⟨a,p,ns,i,m,rfl,_⟩:=h;rfl
 obtain⟨a,p,ns,i,m,rfl,T,hi,hm,q⟩:=h;have i0:=T.i0;refine⟨_,(ah (Gx (aJ bT (aS bK (pv 1) ai (λ_ _=>rfl)) ai) (Px (pv 1) ai set_list)) (ah (bf (aA VL (aS bK (pv 1) ai (λ_ _=>rfl)) (bz bC rfl M.gE eK (ae (pv 0) ag)) (aR _)) (ak (aw (aJ e9 (aS bK (pv 0) (aJ bH (aS bK (pv 1) ai (λ_ _=>rfl)) ai) (λ_ _=>rfl)) (pv 2)))) aK) (ah (aH (i:=3) ij.nd rfl (cq rfl) (bz bC rfl M.gE eK (ae (pv 0) ag))) (ah (fk PassesOwn.never rfl (gm (cg dP (pv 0) bI (bZ ai))) (bJ (i:=4) ij.nd rfl (cq rfl)) (ak (aH (i:=3) ij.nd rfl (cq rfl) (aJ e9 (aJ bT (aJ CF (pv 3) ai) (pv 4)) ai)))) (ak (aw (aJ e9 (aJ e9 (aJ CF (aJ bT (pv 3) ai) (aJ bT (aJ CF (aS bK (pv 1) ai (λ_ _=>rfl)) (aS bK (pv 1) ai (λ_ _=>rfl))) ai)) ai) (pv 2)))))))),?_⟩;try dsimp only[gV,F]
 refine X7 ?_;intro _ _ _ _ _;refine⟨_,rfl,p,_,_,_,rfl,rfl,bE.of T.dq,rfl,_,_,rfl,rfl,_,rfl,p,_,_,0,rfl,rfl,T.dq,rfl,?_⟩;have e1:(upd H p (.lst ([V.int i].set 0 (V.int (i+1))))) p=some (.lst [.int (i+1)]):=aj;have k:bD p H (upd H p (.lst ([V.int i].set 0 (V.int (i+1))))):=bD.upd _;generalize upd H p (.lst ([V.int i].set 0 (V.int (i+1))))=d at e1 k⊢;have e:=T.scr d k;have hl:(ns.map V.int).length=ns.length:=cV _;have hlen:=T.len;refine⟨_,rfl,p,_,_,_,rfl,rfl,bE.of e1,rfl,_,rfl,a,_,rfl, .inl e,_,_,rfl,rfl,_,rfl,?_⟩;refine ba (λc=>?_) (λc=>?_)
 ·have c:i+1<=(((ns.map V.int).length:Nat):Int):=of_decide_eq_true c;have x:i.toNat<ns.length:=by rw[hl]at c;lia
  have e2:(i+1-1:Int)=((i.toNat:Nat):Int):=by lia
  refine⟨_,rfl,_,rfl,p,_,_,_,rfl,rfl,bE.of e1,rfl,_,_,rfl,rfl,a,_,_, .int ns[i.toNat],rfl,rfl,e,?_,_,rfl,_,_,rfl,rfl,hm,?_⟩;·rw[e2];exact aL (by rw[jP,dD x];rfl)
  ·exact q _ d (Int.emod_nonneg _ (by lia)) (Int.emod_lt_of_pos _ hm) k e1
 ·refine⟨_,rfl,a,_,rfl, .inl e,?_⟩;refine⟨_,rfl,_,rfl,a,_,rfl,e,λb n=>?_⟩;have s2:=ao n (.lst (gJ (ns.map V.int) none (some 4)));have I:p≠b:=aZ e1 n;have h2:(upd d b (.lst (gJ (ns.map V.int) none (some 4)))) b=some (.lst (gJ (ns.map V.int) none (some 4))):=aj;rw[show(4:Int)=((4:Nat):Int)from rfl,vq,<-List.map_take]at s2 h2⊢;generalize upd d b (.lst ((ns.take 4).map V.int))=o at s2 h2⊢;refine⟨b,rfl,⟨_,bE.of h2⟩,?_⟩;let r:Nat->L2.St->Hp->Prop:=(λj l H'=>∃(z:Int)(cv:Option V),l=[some (.ref a),some (.ref p),some (.int m),some (.int z),cv]/\0<=z/\z<2000000/\H'=o);refine iw (ns.take 4).length r ?_ ?_ ?_;·exact⟨_,none,rfl,by lia,by rw[hl];lia,rfl⟩
  ·rintro j l H' u⟨z,cv,rfl,y,B,rfl⟩;have v:(ns.take 4)[j]?=some (ns.take 4)[j]:=dD u;have hw:((ns.take 4).map V.int)[j]?=some (.int (ns.take 4)[j]):=by rw[jP,v];rfl
   refine⟨⟨_,_,bE.of h2,hw⟩,?_⟩;rintro J C⟨rfl,g⟩;have g:=g _ (bE.of h2);rw[hw]at g;cases g;refine⟨_,rfl,_,_,rfl,rfl, .inl ⟨by lia,by lia⟩,_,rfl,_,_,rfl,rfl,_,_,rfl,rfl,(by show(0:Int)<1000003;decide),?_⟩;refine⟨_,_,rfl,Int.emod_nonneg _ (by decide),?_,rfl⟩;have :=Int.emod_lt_of_pos (z*131+(ns.take 4)[j]) (show(0:Int)<1000003 by decide);lia
  ·rintro l H'⟨z,cv,rfl,y,B,rfl⟩;have e2:=s2 _ _ e1;refine⟨⟨_,bE.of h2,by rw[cV];exact bN _⟩,?_⟩;refine⟨_,rfl,_,_,rfl,rfl,_,rfl,p,_,_,_,rfl,rfl,bE.of e2,rfl,_,rfl,p,_,_,_,rfl,rfl,bE.of e2,rfl,_,_,rfl,rfl, .inl ⟨by lia,by lia⟩,_,_,rfl,rfl,_,_,rfl,rfl, .inl ⟨by lia,by lia⟩,_,_,rfl,rfl,(by show(0:Int)<1000003;decide),_,rfl,_,_,rfl,rfl,hm,?_⟩;exact q _ _ (Int.emod_nonneg _ (by lia)) (Int.emod_lt_of_pos _ hm) (k.trans s2.x) e2
end K24
end
section
namespace L3
open PySem PySem.Spec PyProof.Rows L2 KM
section
variable{X:Cx}
noncomputable def X6:V->List V->Hp->VK->Prop:=λx vs H Q=>∃(z y:Str)(i:Nat)(rest:List Nat),x= .str z/\vs=[.str y]/\Builtin.Str.occurrences z y 0 z.length 1=i::rest/\Q (.int (i:Nat)) H
theorem QQ:MtR X "str.index" X6:=by intro pins s σ H x vs v us Q I d c h;obtain⟨z,y,i,rest,rfl,rfl,a,q⟩:=h;obtain⟨u,rfl,b⟩:=c.one;obtain⟨t,rfl⟩:=(show∃t,v=Value.str z t from d);obtain⟨t2,rfl⟩:=(show∃t,u=Value.str y t from b);exact SC.index a ⟨.int (i:Nat),H,I.tok _,⟨_,rfl⟩,q⟩
theorem Ep:∀{a:List Str}{us:List Value},Vals (a.map V.str) us->StrsAre us a|[],_, .nil=> .nil|y::a,_, .cons r t=>by obtain⟨tk,rfl⟩:=(show∃t,_=Value.str y t from r);exact .cons y tk (Ep t)
noncomputable def rJoin(K:PySem.W.Frag):V->List V->Hp->VK->Prop:=λx vs H Q=>∃(z:Str)(l:Addr)(a:List Str),x= .str z/\vs=[.ref l]/\bE K H l (a.map V.str)/\(a.map (·.length)).sum+a.length*z.length<=16777216/\Q (.str (Txt.join z a)) H
theorem Sf:MtR X "str.join" (rJoin X.K):=by intro pins s σ H x vs v us Q I d c h;obtain⟨z,l,f,rfl,rfl,hl,a,q⟩:=h;obtain⟨u,rfl,b⟩:=c.one;obtain⟨t,rfl⟩:=(show∃t,v=Value.str z t from d);cases b;obtain⟨e,r,p,_⟩:=I.list hl;exact join_list p.isList (by simpa using Ep r) a λt' k=>⟨.str _,H,I.tok _,⟨_,rfl⟩,q⟩
theorem Hg:iL X (.type "dict") (λxs H Q=>∃(a:Addr)(aF:List (Key×V)),xs=[.ref a]/\H a=some (.dK aF)/\∀p,H p=none->Q (.ref p) (upd H p (.dK aF))):=by
 intro pins s σ H xs us Q I r h;obtain⟨a,aF,rfl,ha,q⟩:=h;obtain⟨u,rfl,f⟩:=r.one;cases f;obtain⟨z,hd,vs,rel,c⟩:=Ov I.cj ha;have hf:H s.heap.objs.size=none:=I.cj.fresh (bN _);refine PySem.kt_call_dict (knd:=dn X.prog X.w) hd c (by rw[<-rel.length];exact z) λh' hn d=>⟨.ref s.heap.objs.size,_,?_,rfl,q _ hf⟩;refine I.laid (a:=s.heap.objs.size) (o:= .dK aF) (t':=s.toks) (λb o e=>?_) (bN _) (G3 z ?_ rel hn);·rw[d.2 b (eN (b_ e))];exact cf _ e
 ·exact beq_eq_false_iff_ne.mpr (Nat.ne_of_gt I.big)
theorem LL(hh:X.A.handled=none):iL X (.builtin "min") (λxs H Q=>∃i j:Int,xs=[.int i, .int j]/\Q (.int (if j<i then j else i)) H):=by
 intro pins s σ H xs us Q I r h;obtain⟨i,j,rfl,q⟩:=h;obtain⟨d,e,rfl,b,c⟩:=Vals.two r;obtain⟨t1,rfl⟩:=(show∃t,d=Value.int i t from b);obtain⟨t2,rfl⟩:=(show∃t,e=Value.int j t from c);refine min_two_ints hh λh' tk a=>⟨.int (if j<i then j else i),H,I.kept (h':=h') (t':=tk) a,?_,q⟩;split;·exact⟨_,rfl⟩
 ·exact⟨_,rfl⟩
theorem zV(hh:X.A.handled=none):iL X (.builtin "max") (λxs H Q=>∃i j:Int,xs=[.int i, .int j]/\Q (.int (if j>i then j else i)) H):=by
 intro pins s σ H xs us Q I r h;obtain⟨i,j,rfl,q⟩:=h;obtain⟨d,e,rfl,b,c⟩:=Vals.two r;obtain⟨t1,rfl⟩:=(show∃t,d=Value.int i t from b);obtain⟨t2,rfl⟩:=(show∃t,e=Value.int j t from c);refine max_two_ints hh λh' tk a=>⟨.int (if j>i then j else i),H,I.kept (h':=h') (t':=tk) a,?_,q⟩;split;·exact⟨_,rfl⟩
 ·exact⟨_,rfl⟩
end
section
variable{X:Cx}{pins:List (Addr×Obj)}{σ:L2.St}{H:Hp}{s:Shared}{a:Addr}{D:List (Str×V)}{k:Str}{tk:Tok}{A:Around}{E:Value->Shared->Prop}
theorem OQ{Q:Value->Shared->Prop}{x:V}{b:Value}(T:mf X.K a D)(I:Inv X pins σ H s)(d:RelV x b)(h:∀c,RelV ((KTD.datumAt k D).getD x) c->Q c {s with toks:=s.toks+1}):wpAny (model X.prog X.w) A (call (.builtin "dict.get") [.ref a, .str k tk,b]) Q E s:=by
 have ty:=T.typeIs I;refine qU PySem.F.slot_dict_get ty PySem.F.entry_dict_get ?_ (PySem.F.args_dict_get_3 _ _ _);show wpAny (model X.prog X.w) _ (dictGet a (.str k tk)>>=_) _ _ s;refine az (Bx T I (λv u e r=>?_) λhn=>?_);·have h:=h u (by rw[e];exact r);exact bA ⟨u,rfl,h⟩
 ·have h:=h b (by rw[hn];exact d);refine az ?_;unfold Builtin.Dict.missed;rw[T.sys];simp only[Bool.false_eq_true,if_false];exact bA (bA ⟨_,rfl,h⟩)
end
noncomputable def ZM(K:PySem.W.Frag)(td ty e:TE):TE:=λσ H Q=>td σ H λx b=>∃a D,x= .ref a/\mf K a D/\ty σ b λy c=>e σ c λz d=>∃k,y= .str k/\Q ((KTD.datumAt k D).getD z) d
theorem OR{X:Cx}{o e f:Expr}{apos eU:Pos}{td ty g:TE}(w:PE X o td)(v:PE X e ty)(hf:PE X f g)(m:M2 X o "get" apos e f eU):PE X (.Call (.Attribute o "get" apos) [e,f] [] eU) (ZM X.K td ty g):=by
 intro pins s σ H Q I h;refine wpAny_Call_method m.base m.few m.line PySem.F.plainAttrs_dict PySem.F.slot_dict_get PySem.F.type_dict_get (b9 (w pins s σ H _ I h) λu s1 C=>?_);obtain⟨x,i,c,A,a,D,ex,T,q1⟩:=C;subst ex;obtain rfl:u=Value.ref a:=A;have t1:=T.typeIs c;refine⟨t1,λb q=>?_,?_⟩;·cases q;obtain⟨o,_,_,e,x,_⟩:=T.ex;exact⟨o,c.kK a o e,x.2.1⟩
 rw[m.trees];refine Calls.callWith_builtin rfl (Calls.evalArgs_plain (Calls.spliced_cons (b9 (v pins s1 σ i _ c q1) λF s2⟨y,j,n,B,q2⟩=>Calls.spliced_cons (b9 (hf pins s2 σ j _ n q2) λE G⟨z,l,d,rz,k,p,q3⟩=>Calls.spliced_nil ?_))));subst p;obtain⟨t,rfl⟩:=B;exact OQ T d rz λJ r=>⟨_,l,d.tok _,r,q3⟩
theorem aag:bootBuiltins "min"=some (.builtin "min"):=by decide+kernel
theorem Ti:bootBuiltins "dict"=some (.type "dict"):=by decide+kernel
theorem Mt{J:It}{p:Addr}{h:Hp}{g:TG}{w:TE}{b:L2.St}{C:Hp->Prop}(n:Nat)(B:Nat->V->Prop)(t:h p=none)(hn:n<=sizeLine)(E:∀i a,i<n->aQ h a->J.go i a/\∀x d,J.yW i a x d->∀(R:V->Hp->Prop),(∀(z:V)f,aQ a f->B i z->R z f)->g x b d λl o=>w l o R)(hd:∀(ns:List V)a,aQ h a->ns.length=n->(∀(i:Nat)(z:V),ns[i]?=some z->B i z)->a p=some (.lst ns)->J.stop n a/\C a):∃W:Nat->Nat->List V->Hp->Prop,(∃m,W 0 m [] (upd h p (.lst [])))/\∀i m c a,W i m c a->(J.stop i a/\C a)\/(J.go i a/\∀x d,J.yW i a x d->g x b d λl o=>BW l o λok s=>if ok=true then w l s λv f=>f p=some (.lst c)/\c.length<sizeLine/\∃k,k<m/\W (i+1) k (c++[v]) (upd f p (.lst (c++[v])))else∃k,k<m/\W (i+1) k c s):=by
 refine kP (Q:=λ_ H=>C H) n (λi c a=>c.length=i/\(∀(j:Nat)(z:V),c[j]?=some z->B j z)/\a p=some (.lst c)/\aQ h a) ⟨rfl,λj z e=>by simp at e,aj,ao t _⟩ ?_ ?_
 ·rintro i c a hi⟨hl,r,h2,s2⟩;obtain⟨A,D⟩:=E i a hi s2;refine⟨A,λx d y=>?_⟩;simp only[BW,if_true];refine D x d y _ λz f u G=>⟨u _ _ h2,by lia,nx hi ⟨by simp[hl],λj y e=>?_,aj,eB (s2.trans u) t⟩⟩;by_cases F:j<c.length;·rw[EZ F]at e;exact r j y e
  ·rw[List.getElem?_append_right (by lia)]at e;have :j-c.length=0:=by
    by_cases q:j-c.length=0;·exact q
    ·rw[List.getElem?_eq_none (by simp;lia)]at e;cases e
   rw[this]at e;simp at e;subst e;have :j=i:=by lia
   rw[this];exact G
 ·rintro c a⟨hl,r,h2,s2⟩;exact hd c a s2 hl r h2
theorem zZ:∀(bs:List Addr),Vals (bs.map V.ref) (bs.map Value.ref)|[]=> .nil|b::bs=> .cons rfl (zZ bs)
theorem x_{K:PySem.W.Frag}{a:Addr}{d:Option Addr}{b:Array Value}{n:Nat}{sl:Array (Option Value)}(bs:List Addr)(h:K.lookup a=some ⟨.type "tuple",d, .seq b n,sl⟩)(e:b.toList=bs.map Value.ref)(hl:bs.length<=100:=by decide):zg K a (bs.map V.ref):=by refine⟨_,b,n,h,rfl,rfl,?_,by rw[e];exact zZ bs⟩;have h2:=congrArg List.length e;rw[Array.length_toList,cV]at h2;rw[h2];exact dJ hl (by decide)
theorem Tu{K:PySem.W.Frag}{a:Addr}{es:Array DictEntry}{ep:Nat}(b:List Str)(as:List Addr)(e:(a==sysModules)=false)(d:K.lookup a=some ⟨.type "dict",none, .dict es ep,#[]⟩)(c:gf es.toList b=true)(rf:refsOf es.toList=as):mf K a ((b.zip as).map λp=>(p.1,V.ref p.2)):=by refine⟨e,_,es,ep,d,⟨rfl,rfl,rfl⟩,rfl,?_⟩;have h:=CM c;rw[rf]at h;exact h
end L3
end
section
namespace K24
open PySem L2 L3 KM PyProof.Rows
seal L2.PE L2.PS L2.iO L2.PT L2.PW L2.PA L2.PG L2.Bu L2.PI L2.PC L2.PO L2.AY L2.PK L3.A8
variable{P:Program}{w:World}{K:PySem.W.Frag}{mg:Str->Option Value}{base:Heap}{t:xV}
theorem big{m:Nat}(h:m<=1000):m<=sizeLine:=dJ h (by decide)
theorem Gs(a b:Str):(a++b).length=a.length+b.length:=Array.size_append
def JX:Sp:=λvs H Q _=>∃x:Str,vs=[.str x]/\x.length<=100/\∀(y:Str)(H':Hp),y.length<=101->aQ H H'->Q (.str y) H'
theorem CN:aT ["_law_word_here"] ["_law_word_here"] (ar g7):=⟨rfl,rfl,rfl,by decide+kernel,rfl,by decide+kernel,by decide+kernel⟩
theorem EA(D:Df K mg "_law_named" g7 ["_law_word_here"])(M:Mg mg t):bx P w K mg bF "_law_named" (1) ["_law_word_here"] JX:=by
 refine D.ok CN (λvs H Q E h=>?_) (λbase f cZ A outer s H vs Q E j h=>?_);·obtain⟨x,rfl,_⟩:=h;rfl
 obtain⟨x,rfl,k,q⟩:=h;refine⟨_,(ah (bf (aA iE (pv 0) (aE (ae aq (ae aq (ae aq (ae aq (ae aq (ae aq (ae aq (ae aq (ae aq (ae aq (ae aq (ae aq (ae aq ag)))))))))))))) rfl) (ak (aw (aJ cL (xr (pv 0) bI (bZ (QT FY ai)) bI) aq))) aK) (ah (bf (aA iE (pv 0) (aE (ae aq (ae aq (ae aq (ae aq (ae aq ag)))))) rfl) (ak (aw (aJ cL (xr (pv 0) bI (bZ (QT FY ai)) bI) aq))) aK) (ak (aw (pv 0))))),?_⟩;try dsimp only[gV,i]
 refine zu ?_;intro _ _ _;refine⟨_,rfl,(c7 rfl),λe a=>⟨e,(["nat","none","all","some","same","var","fun","app","zero","next","rec","like","carry"]:List Str).map V.str,rfl, .inr (bU.of aj),rfl,rfl,_,rfl,?_⟩⟩;have s1:aQ H _:=ao a (.tup ((["nat","none","all","some","same","var","fun","app","zero","next","rec","like","carry"]:List Str).map V.str));refine ba (λc=>?_) (λc=>?_);·refine⟨_,rfl,_,rfl,_,rfl,x,rfl,big (by lia),(by simp),λy d=>⟨_,_,rfl,rfl,big (by show y.length+1<=1000;lia),q _ _ (by rw[Gs];show y.length+1<=101;lia) s1⟩⟩
 ·refine⟨_,rfl,(c7 rfl),λg b=>⟨g,(["never","pair","first","second","name"]:List Str).map V.str,rfl, .inr (bU.of aj),rfl,rfl,_,rfl,?_⟩⟩;have s2:=s1.trans (ao b (.tup ((["never","pair","first","second","name"]:List Str).map V.str)));refine ba (λc=>?_) (λc=>?_);·refine⟨_,rfl,_,rfl,_,rfl,x,rfl,big (by lia),(by simp),λy d=>⟨_,_,rfl,rfl,big (by show y.length+1<=1000;lia),q _ _ (by rw[Gs];show y.length+1<=101;lia) s2⟩⟩
  ·exact⟨_,rfl,q x _ (by lia) s2⟩
noncomputable def cO:Str:="abcdefghijklmnopqrstuvwxyz"
noncomputable def xo(j:Int):Nat:=(cO.cps.toList[(j%26).toNat]?).getD 97
theorem Sd:cO.cps.toList.length=26:=by decide+kernel
theorem Hm(j:Int):lX cO.cps.toList (j%26)=some (xo j)/\xo j∈cO.cps.toList:=by
 have b:=Int.emod_nonneg j (show(26:Int)≠0 by decide);have h1:=Int.emod_lt_of_pos j (show(0:Int)<26 by decide);have hl:(j%26).toNat<cO.cps.toList.length:=by rw[Sd];lia
 have e:cO.cps.toList[(j%26).toNat]?=some (xo j):=by unfold xo;rw[dD hl];rfl
 refine⟨?_,qO e⟩;have a:j%26=(((j%26).toNat:Nat):Int):=by lia
 rw[a];exact aL e
theorem UI:(cO.cps.toList.all λc=>match Builtin.Str.occurrences cO ⟨#[c]⟩ 0 cO.length 1 with|_::_=>true|[]=>false)=true:=by decide+kernel
theorem Sq{c:Nat}(h:c∈cO.cps.toList):∃i rest,Builtin.Str.occurrences cO ⟨#[c]⟩ 0 cO.length 1=i::rest:=by have :=List.all_eq_true.mp UI c h;cases e:Builtin.Str.occurrences cO ⟨#[c]⟩ 0 cO.length 1 with|nil=>rw[e]at this;cases this|cons i rest=>exact⟨i,rest,rfl⟩
theorem zK:∀(cs:List Nat)(A:Array Nat),(cs.map λc=>(⟨#[c]⟩:Str)).foldl (λa p=>a++(Str.ofString "").cps++p.cps) A=A++cs.toArray
 |[],A=>by simp
 |c::cs,A=>by
  rw[ff,List.foldl_cons,zK cs];have e:(Str.ofString "").cps=#[]:=by decide+kernel
  rw[e];simp
theorem CL(cs:List Nat):(Txt.join (Str.ofString "") (cs.map λc=>(⟨#[c]⟩:Str))).cps.toList=cs:=by cases cs with|nil=>decide+kernel|cons c cs=>show((((c::cs).map λc=>(⟨#[c]⟩:Str)).drop 1).foldl (λa p=>a++(Str.ofString "").cps++p.cps) (((c::cs).map λc=>(⟨#[c]⟩:Str)).headD Str.empty).cps).toList=c::cs;rw[ff,List.drop_succ_cons,List.drop_zero,zK];simp
theorem Oc(cs:List Nat):((cs.map λc=>(⟨#[c]⟩:Str)).map (·.length)).sum=cs.length:=by induction cs with|nil=>rfl|cons c cs a=>rw[ff,ff,List.sum_cons,a,bS];show 1+cs.length=_;lia
def Oe(K:PySem.W.Frag):Sp:=λvs H Q _=>∃(a p:Addr)(ns:List Int)(i:Int),vs=[.ref a, .ref p]/\Tp K a p ns H i/\i<2^59/\∀(c:Addr)(x y z:Str)(H':Hp),x.length<=101->y.length<=101->z.length<=101->H' c=some (.lst [.str x, .str y, .str z])->bD p H H'->H' p=some (.lst [.int (i+4)])->Q (.ref c) H'
theorem dw:aT ["_law_script","_law_tape","_law_letters","_law_cell","_law_size","_law_word_here","_law_at","_law_other","_law_words"] ["_law_script","_law_tape"] (ar fA):=⟨rfl,rfl,rfl,by decide+kernel,rfl,by decide+kernel,by decide+kernel⟩
theorem FR(D:Df K mg "_law_pool" fA ["_law_script","_law_tape"])(M:Mg mg t)(o:bx P w K mg bF "_law_draw" (1) Bi (d_ K))(Du:bx P w K mg bF "_law_named" (1) ["_law_word_here"] JX):bx P w K mg bF "_law_pool" (2) ["_law_script","_law_tape"] (Oe K):=by
 refine D.ok dw (λvs H Q E h=>?_) (λbase f cZ A outer s H vs Q E g h=>?_);·obtain⟨a,p,ns,i,rfl,_⟩:=h;rfl
 obtain⟨a,p,ns,i,rfl,T,hi,q⟩:=h;refine⟨_,(ah (aH (i:=2) dw.nd rfl (cq rfl) aq) (ah (aH (i:=3) dw.nd rfl (cq rfl) (aI o g.m rfl aM (ae (pv 0) (ae (pv 1) (ae (aJ Y1 ai ai) ag))))) (ah (aH (i:=4) dw.nd rfl (cq rfl) (aJ bT ai (aI o g.m rfl aM (ae (pv 0) (ae (pv 1) (ae ai ag)))))) (ah (aH (i:=5) dw.nd rfl (cq rfl) (pM PySem.F.plainAttrs_str PySem.F.slot_str_join PySem.F.type_str_join Sf aq (ae (nj (N':=["_law_k","_law_letters","_law_cell"]) (own:=1) (fr:=[2,3]) rfl (j8 (N:=["_law_script","_law_tape","_law_letters","_law_cell","_law_size","_law_word_here","_law_at","_law_other","_law_words"]) (sc:=ar fA) rfl rfl rfl (by decide+kernel)) (eR rfl M.ia (ae (pv 4) ag)) (gU (by decide)) (λ_ _ _=>(bJ (i:=0) (show List.Nodup (["_law_k","_law_letters","_law_cell"]:List Str)by decide+kernel) rfl (Or.inl rfl))) (λ_ _ _=>nA) (λ_ _ _=>(aS jk (pv 1) (aJ e9 (aJ bT (aJ uu (pv 2) (aJ bT (pv 0) ai)) (aJ CF ai (pv 0))) ai) (λ_ _=>rfl)))) ag))) (ah (aH (i:=6) dw.nd rfl (cq rfl) (aI o g.m rfl aM (ae (pv 0) (ae (pv 1) (ae (pv 4) ag))))) (ah (aH (i:=7) dw.nd rfl (cq rfl) (aS jk (pv 2) (aJ e9 (aJ bT (aJ bT (pM PySem.F.plainAttrs_str PySem.F.slot_str_index PySem.F.type_str_index QQ (pv 2) (ae (aS jk (pv 5) (pv 6) (λ_ _=>rfl)) ag)) ai) (aI o g.m rfl aM (ae (pv 0) (ae (pv 1) (ae ai ag))))) ai) (λ_ _=>rfl))) (ah (aH (i:=8) dw.nd rfl (cq rfl) (bR (ae (pv 5) (ae (aJ cL (aJ cL (xr (pv 5) bI (bZ (pv 6)) bI) (pv 7)) (xr (pv 5) (bZ (aJ bT (pv 6) ai)) bI bI)) (ae (xr (aJ cL (pv 7) (pv 5)) bI (bZ ai) bI) ag))))) (ak (aw (nj (N':=["_law_one"]) (own:=1) (fr:=[]) rfl (j8 (N:=["_law_script","_law_tape","_law_letters","_law_cell","_law_size","_law_word_here","_law_at","_law_other","_law_words"]) (sc:=ar fA) rfl rfl rfl (by decide+kernel)) (gm (pv 8)) (gU (by decide)) (λ_ _ _=>(bJ (i:=0) (show List.Nodup (["_law_one"]:List Str)by decide+kernel) rfl (Or.inl rfl))) (λ_ _ _=>nA) (λ_ _ _=>(aI Du g.m rfl aM (ae (pv 0) ag))))))))))))),?_⟩;try dsimp only[gV,cP]
 refine ae_ ?_;intro _ _ _ _ _ _ _ _;refine⟨_,rfl,_,rfl,_,_,rfl,rfl,⟨by decide,by decide,by decide⟩,a,p,ns,i,_,rfl,T,(by lia),(by decide),λcell H1 c0 c1 x1 h1=>?_⟩;have T1:=T.next x1 h1 (by have :=T.i0;lia);refine⟨_,rfl,_,rfl,a,p,ns,i+1,12,rfl,T1,(by lia),(by decide),λsz H2 z0 z1 x2 h2=>⟨_,_,rfl,rfl,?_⟩⟩;have T2:=T1.next x2 h2 (by have :=T.i0;lia);obtain⟨m,em⟩:∃m:Nat,1+sz=(m:Int):=⟨(1+sz).toNat,by lia⟩;show n8 4 (V.int (1+sz)) _ _ _;rw[em];refine⟨rfl,_,rfl,_,rfl,(by show-(2^62)<=((m:Nat):Int);lia),(by show((m:Nat):Int)<2^62;lia),λp3 Yn=>?_⟩;refine Ay m (λk=>V.str ⟨#[xo (cell/((k:Nat)+1)+5*(k:Nat))]⟩) Yn (big (by lia)) (λk H3 F G=>⟨F,?_⟩) λH3 G h3=>⟨bN _,?_⟩
 ·rintro x' H4⟨rfl,rfl⟩R B;have e0:(0:Int)+(k:Int)=((k:Nat):Int):=by lia
  rw[e0];refine⟨_,rfl,_,rfl,_,rfl,_,_,rfl,rfl,_,_,rfl,rfl,⟨by lia,by lia⟩,_,rfl,_,_,rfl,rfl, .inl ⟨by decide,by decide⟩,_,_,rfl,rfl,_,_,rfl,rfl,(by show(0:Int)<26;decide),cO,_,_,rfl,rfl,(by decide),(Hm _).1,B _ (aQ.refl _)⟩
 have e3:(List.range m).map (λk:Nat=>V.str ⟨#[xo (cell/((k:Nat)+1)+5*(k:Nat))]⟩)=((((List.range m).map λk:Nat=>xo (cell/((k:Nat)+1)+5*(k:Nat))).map λc=>(⟨#[c]⟩:Str))).map V.str:=by rw[List.map_map,List.map_map];rfl
 rw[e3]at h3;have U:∀c∈((List.range m).map λk:Nat=>xo (cell/((k:Nat)+1)+5*(k:Nat))),c∈cO.cps.toList:=λc hc=>by obtain⟨k,_,rfl⟩:=List.mem_map.mp hc;exact(Hm _).2
 have S:((List.range m).map λk:Nat=>xo (cell/((k:Nat)+1)+5*(k:Nat))).length=m:=by rw[cV,List.length_range]
 generalize((List.range m).map λk:Nat=>xo (cell/((k:Nat)+1)+5*(k:Nat)))=cs at h3 U S e3;refine⟨_,p3,_,rfl,rfl,bE.of h3,?_,?_⟩;·rw[Oc,cV];show cs.length+cs.length*0<=_;lia
 have C:=CL cs;have hWl:(Txt.join (Str.ofString "") (cs.map λc=>(⟨#[c]⟩:Str))).length=m:=by have :=congrArg List.length C;rw[Array.length_toList]at this;rw[<-S,<-this];rfl
 generalize Txt.join (Str.ofString "") (cs.map λc=>(⟨#[c]⟩:Str))=W at C hWl⊢;have L:=T2.mono G;have i0:=T.i0;refine⟨_,rfl,_,rfl,_,rfl,a,p,ns,i+1+1,m,rfl,L,(by lia),(by lia),λat_ H4 a0 a1 x4 h4=>?_⟩;have T4:=L.next x4 h4 (by lia);obtain⟨n,rfl⟩:∃n:Nat,at_=(n:Int):=⟨at_.toNat,by lia⟩;have O:n<cs.length:=by lia
 have hc:lX W.cps.toList (n:Int)=some cs[n]:=by rw[C];exact aL (dD O)
 obtain⟨ix,rest,hoc⟩:=Sq (U _ (List.getElem_mem O));refine⟨_,rfl,_,rfl,rfl,_,rfl,_,rfl,W,_,_,rfl,rfl,big (by lia),hc,cO,_,ix,rest,rfl,rfl,hoc,_,_,rfl,rfl,_,rfl,_,rfl,a,p,ns,i+1+1+1,25,rfl,T4,(by lia),(by decide),λr I r0 r1 x5 h5=>?_⟩;refine⟨_,_,rfl,rfl,_,_,rfl,rfl,(by show(0:Int)<26;decide),cO,_,_,rfl,rfl,(by decide),(Hm _).1,?_⟩;have one:∀c:Nat,(⟨#[c]⟩:Str).length=1:=λc=>rfl;generalize xo _=oc;refine⟨_,rfl,_,rfl,_,rfl,_,rfl,W,rfl,big (by lia),(by simp),λb hy1=>?_⟩;refine⟨_,rfl,_,_,rfl,rfl,big (by rw[one];lia),_,rfl,_,rfl,_,_,rfl,rfl,_,rfl,W,rfl,big (by lia),(by simp),λd hy2=>?_⟩;refine⟨_,_,rfl,rfl,big (by rw[Gs,one];lia),_,rfl,_,rfl,_,_,rfl,rfl,big (by rw[one];lia),_,rfl,_,rfl,big (by rw[Gs,one];lia),(by simp),λe hy3=>?_⟩;rw[Gs,one]at hy3;refine⟨(c7 rfl),λu hp6=>?_⟩;have Z:=ao hp6 (.lst [V.str W,V.str (b++⟨#[oc]⟩++d),V.str e]);have h6:(upd I u (.lst [V.str W,V.str (b++⟨#[oc]⟩++d),V.str e])) u=some (.lst [V.str W,V.str (b++⟨#[oc]⟩++d),V.str e]):=aj;generalize upd I u (.lst [V.str W,V.str (b++⟨#[oc]⟩++d),V.str e])=H6 at Z h6⊢;have hl3:∀z∈[W,b++⟨#[oc]⟩++d,e],z.length<=100:=λz j=>by
  simp only[kZ,pj,or_false]at j;rcases j with rfl|rfl|rfl;·lia
  ·rw[Gs,Gs,one];lia
  ·lia
 refine⟨_,rfl,u,rfl,⟨_,bE.of h6⟩,λp7 hp7=>?_⟩;refine Mt 3 (λ_ v=>∃y:Str,v= .str y/\y.length<=101) hp7 (by decide) (λk J F l=>?_) λvs J l hl x h7=>⟨⟨_,bE.of (l _ _ h6),bN _⟩,?_⟩
 ·obtain⟨z,j,hzm⟩:∃z:Str,[V.str W,V.str (b++⟨#[oc]⟩++d),V.str e][k]?=some (.str z)/\z∈[W,b++⟨#[oc]⟩++d,e]:=by match k,F with|0,_=>exact⟨_,rfl,by simp⟩|1,_=>exact⟨_,rfl,by simp⟩|2,_=>exact⟨_,rfl,by simp⟩
  refine⟨⟨_,_,bE.of (l _ _ h6),j⟩,?_⟩;rintro x' H8⟨rfl,hy⟩R B;have X:=hy _ (bE.of (l _ _ h6));rw[j]at X;cases X;exact⟨_,rfl,z,rfl,hl3 z hzm,λy H9 hy9 s9=>B _ H9 s9 ⟨y,rfl,hy9⟩⟩
 ·match vs,hl with|[v1,v2,v3],_=>obtain⟨q1,rfl,l1⟩:=x 0 v1 rfl;obtain⟨q2,rfl,l2⟩:=x 1 v2 rfl;obtain⟨q3,rfl,l3⟩:=x 2 v3 rfl;have Y:=Z.trans l;refine q p7 q1 q2 q3 J l1 l2 l3 h7 (((x1.trans x2).trans (G.x.trans x4)).trans (x5.trans Y.x)) ?_;rw[show i+4=i+1+1+1+1 by lia];exact Y _ _ h5
def PlD(H:Hp)(c:Addr):Prop:=∃x y z:Str,x.length<=101/\y.length<=101/\z.length<=101/\H c=some (.lst [.str x, .str y, .str z])
structure Sg(K:PySem.W.Frag)(a p c:Addr)(ns:List Int)(H:Hp)(i:Int):Prop where
 T:Tp K a p ns H i
 pl:PlD H c
theorem Sg.next{a p c:Addr}{ns:List Int}{H H':Hp}{i j:Int}(g:Sg K a p c ns H i)(s:bD p H H')(h:H' p=some (.lst [.int j]))(b:0<=j):Sg K a p c ns H' j:=by refine⟨g.T.next s h b,?_⟩;obtain⟨x,y,z,d,f,k,hc⟩:=g.pl;refine⟨x,y,z,d,f,k,s _ _ (λe=>?_) hc⟩;subst e;rw[g.T.dq]at hc;cases hc
theorem Sg.upd{a p c b:Addr}{ns:List Int}{H:Hp}{i:Int}{aF:List (Key×V)}{o:HO}(g:Sg K a p c ns H i)(hb:H b=some (.dK aF)):Sg K a p c ns (L2.upd H b o) i:=by refine⟨g.T.upd hb,?_⟩;obtain⟨x,y,z,d,f,h,hc⟩:=g.pl;refine⟨x,y,z,d,f,h,?_⟩;rw[aY (λe=>by rw[e,hb]at hc;cases hc)];exact hc
theorem Sg.mono{a p c:Addr}{ns:List Int}{H H':Hp}{i:Int}(g:Sg K a p c ns H i)(s:aQ H H'):Sg K a p c ns H' i:=g.next s.x (s _ _ g.T.dq) g.T.i0
theorem Sg.rep{a p c:Addr}{ns:List Int}{H H':Hp}{i:Int}{d:D}{v:V}(g:Sg K a p c ns H i)(s:bD p H H')(r:Rep H d v):Rep H' d v:=g.T.rep s r
noncomputable def cst(n:Nat):Int:=10^(n+1)
theorem xp(n:Nat):cst (n+1)=10*cst n:=by unfold cst;rw[Int.pow_succ];lia
theorem jh:∀n:Nat,10<=cst n|0=>by decide|n+1=>by have :=jh n;rw[xp];lia
noncomputable def p5(n:Nat):Nat:=5^n
theorem BB(n:Nat):p5 (n+1)=5*p5 n:=by unfold p5;rw[Nat.pow_succ];lia
theorem nR:∀n:Nat,1<=p5 n|0=>by decide|n+1=>by have :=nR n;rw[BB];lia
structure Ou(K:PySem.W.Frag)(a p c:Addr)(ns:List Int)(H:Hp)(i:Int)(k:Bool)(dp kn:Nat)(co:Int)(d:D)(v:V)(H':Hp)(i':Int):Prop where
 r:Rep H' d v
 wf:bu ay k d=true
 dp:depth d<=dp
 kn:aG d<=kn
 sx:bD p H H'
 g:Sg K a p c ns H' i'
 lo:i<=i'
 hi:i'<=i+co
theorem Ou.weak{a p c:Addr}{ns:List Int}{H H':Hp}{i i':Int}{k:Bool}{dp kn e f:Nat}{co b:Int}{d:D}{v:V}(o:Ou K a p c ns H i k dp kn co d v H' i')(h1:dp<=e)(h2:kn<=f)(h3:co<=b):Ou K a p c ns H i k e f b d v H' i':=⟨o.r,o.wf,dJ o.dp h1,dJ o.kn h2,o.sx,o.g,o.lo,by have :=o.hi;lia⟩
theorem Ou.after{a p c:Addr}{ns:List Int}{H b H':Hp}{i j i':Int}{k:Bool}{dp kn:Nat}{co co1:Int}{d:D}{v:V}(o:Ou K a p c ns b j k dp kn co d v H' i')(s:bD p H b)(h1:i<=j)(h2:j<=i+co1):Ou K a p c ns H i k dp kn (co1+co) d v H' i':=⟨o.r,o.wf,o.dp,o.kn,s.trans o.sx,o.g,by have :=o.lo;lia,by have :=o.hi;lia⟩
theorem Ou.later{a p c:Addr}{ns:List Int}{H H' b:Hp}{i i':Int}{k:Bool}{dp kn:Nat}{co:Int}{d:D}{v:V}(o:Ou K a p c ns H i k dp kn co d v H' i')(s:bD p H' b):Rep b d v:=o.g.rep s o.r
theorem made{a p c q:Addr}{ns:List Int}{H b:Hp}{i i2:Int}{k:Bool}{dp kn:Nat}{co:Int}{ds:List D}{vs:List V}(s:bD p H b)(g:Sg K a p c ns b i2)(hq:b q=none)(r:bg b ds vs)(wf:bu ay k (.tup ds)=true)(h1:depth (.tup ds)<=dp)(h2:aG (.tup ds)<=kn)(lo:i<=i2)(hi:i2<=i+co):Ou K a p c ns H i k dp kn co (.tup ds) (.ref q) (upd b q (.tup vs)) i2:=⟨dQ hq r,wf,h1,h2,s.trans (ao hq _).x,g.mono (ao hq _),lo,hi⟩
def eF(K:PySem.W.Frag)(k:Bool)(n:Nat):Sp:=λvs H Q _=>∃(a p c:Addr)(ns:List Int)(i deep near:Int),vs=[.ref a, .ref p, .int deep, .int near, .ref c]/\Sg K a p c ns H i/\i+cst n<2^58/\-1<=deep/\deep+1<n/\n<=10/\0<=near/\near+n<=99/\∀(d:D)(v:V)(H':Hp)(i':Int),Ou K a p c ns H i k (2*n+2) (3*p5 n) (cst n) d v H' i'->Q v H'
def kj(K:PySem.W.Frag)(n dp kn:Nat)(co:Int):Sp:=λvs H Q _=>∃(a p c:Addr)(ns:List Int)(i deep near:Int),vs=[.ref a, .ref p, .int deep, .int near, .ref c]/\Sg K a p c ns H i/\i+4*cst n<2^58/\1<=deep/\deep<n/\n<=9/\0<=near/\near+n+1<=99/\∀(d:D)(v:V)(H':Hp)(i':Int),Ou K a p c ns H i false dp kn co d v H' i'->Q v H'
def Gk(K:PySem.W.Frag):Sp:=λvs H Q _=>∃(a p c:Addr)(ns:List Int)(i near:Int),vs=[.ref a, .ref p, .int near, .ref c]/\Sg K a p c ns H i/\i<2^59/\0<=near/\near<=99/\∀(d:D)(v:V)(H':Hp)(i':Int),Ou K a p c ns H i false 2 2 2 d v H' i'->Q v H'
theorem pY:aT ["_law_script","_law_tape","_law_near","_law_pool_here","_law_way"] ["_law_script","_law_tape","_law_near","_law_pool_here"] (ar jn):=⟨rfl,rfl,rfl,by decide+kernel,rfl,by decide+kernel,by decide+kernel⟩
theorem Gj(D:Df K mg "_law_leaf" jn ["_law_script","_law_tape","_law_near","_law_pool_here"])(M:Mg mg t)(r:bx P w K mg bF "_law_draw" (1) Bi (d_ K)):bx P w K mg bF "_law_leaf" (131) ["_law_script","_law_tape","_law_near","_law_pool_here"] (Gk K):=by
 refine D.ok pY (λvs H Q E h=>?_) (λbase f cZ A outer s H vs Q E l h=>?_);·obtain⟨a,p,c,ns,i,near,rfl,_⟩:=h;rfl
 obtain⟨a,p,c,ns,i,near,rfl,g,hi,S,T,q⟩:=h;have hh:=l.hd (by decide);have i0:=g.T.i0;refine⟨_,(ah (aH (i:=4) pY.nd rfl (cq rfl) (aI r l.m rfl aM (ae (pv 0) (ae (pv 1) (ae ai ag))))) (ah (bf (aA bQ (pv 4) ai (aR _)) (ak (aw (aE (ae aq ag)))) aK) (ah (bf (aA bQ (pv 4) ai (aR _)) (ak (aw (aE (ae aq (ae (aS bK (pv 3) (aI r l.m rfl aM (ae (pv 0) (ae (pv 1) (ae ai ag)))) (λ_ _=>rfl)) ag))))) aK) (ah (bf (aA bQ (pv 2) ai (aR _)) (ak (aw (aE (ae aq (ae (aE (ae aq ag)) ag))))) aK) (ah (bf (aA bQ (pv 4) ai (aR _)) (ak (aw (aE (ae aq (ae (aI r l.m rfl aM (ae (pv 0) (ae (pv 1) (ae (pv 2) ag)))) ag))))) aK) (ak (aw (aE (ae aq (ae (aI r l.m rfl aM (ae (pv 0) (ae (pv 1) (ae (bz (LL hh) rfl M.ac4 aag (ae (pv 2) (ae ai ag))) ag)))) ag)))))))))),?_⟩;try dsimp only[gV,O]
 refine SW ?_;intro _ _ _ _ _ _;refine⟨_,rfl,_,rfl,a,p,ns,i,6,rfl,g.T,(by lia),(by decide),λU v w0 w1 m h1=>?_⟩;have j:=g.next m h1 (by lia);have zero:∀{q:Addr},v q=none->Ou K a p c ns H i false 2 2 2 (.tup [.str "zero"]) (.ref q) (upd v q (.tup [V.str "zero"])) (i+1):=λhq=>made m j hq (rs gY r0) jq (by simp[depth,aN]) (by simp[aG,aO]) (by lia) (by lia);refine⟨_,rfl,rfl,_,rfl,ba (λ_=>⟨(c7 rfl),λq1 b=>q _ _ _ _ (zero b)⟩) (λ_=>?_)⟩;refine⟨_,rfl,rfl,_,rfl,ba (λ_=>?_) (λ_=>?_)⟩
 ·obtain⟨x,y,z,J,L,N,hc⟩:=j.pl;refine⟨_,rfl,_,rfl,_,rfl,a,p,ns,i+1,3,rfl,j.T,(by lia),(by decide),λat_ k a0 a1 d h2=>?_⟩;have C:=j.next d h2 (by lia);have F:k c=some (.lst [.str x, .str y, .str z]):=d _ _ (λe=>by subst e;rw[j.T.dq]at hc;cases hc) hc;obtain⟨o,G,R⟩:∃o:Str,lX [V.str x, .str y, .str z] at_=some (.str o)/\o.length<=101:=by
   have :at_=0\/at_=1\/at_=2:=by lia
   rcases this with rfl|rfl|rfl;·exact⟨x,rfl,J⟩
   ·exact⟨y,rfl,L⟩
   ·exact⟨z,rfl,N⟩
  refine⟨c,_,_,_,rfl,rfl,bE.of F,G,(c7 rfl),λq1 b=>q _ _ _ _ (made (m.trans d) C b (rs gY (rs (gY (by lia)) r0)) (BR rfl) (by simp[depth,aN]) (by simp[aG,aO]) (by lia) (by lia))⟩
 refine⟨_,rfl,rfl,_,rfl,ba (λ_=>?_) (λB=>?_)⟩;·refine⟨(c7 rfl),λq1 b=>⟨(c7 rfl),λq2 I=>?_⟩⟩;have s1:=ao b (.tup [V.str "zero"]);exact q _ _ _ _ (made (m.trans s1.x) (j.mono s1) I (rs gY (rs (dQ b (rs gY r0)) r0)) (wU jq) (by simp[depth,aN]) (by simp[aG,aO]) (by lia) (by lia))
 have hn:0<near:=by have :near≠0:=λz=>B (by rw[z];exact decide_eq_true rfl);lia
 have var:∀{z:Int}{k:Hp}{q:Addr},0<=z->z<near->bD p v k->k p=some (.lst [.int (i+1+1)])->k q=none->Ou K a p c ns H i false 2 2 2 (.tup [.str "var", .int z]) (.ref q) (upd k q (.tup [V.str "var", .int z])) (i+1+1):=λn u d h2 hq=>made (m.trans d) (j.next d h2 (by lia)) hq (rs gY (rs ri r0)) (XX n (by lia)) (by simp[depth,aN]) (by simp[aG,aO]) (by lia) (by lia);refine⟨_,rfl,rfl,_,rfl,ba (λ_=>?_) (λ_=>?_)⟩;·refine⟨_,rfl,_,rfl,_,rfl,a,p,ns,i+1,near,rfl,j.T,(by lia),hn,λz k n u d h2=>⟨(c7 rfl),λq1 b=>q _ _ _ _ (var n u d h2 b)⟩⟩
 ·refine⟨_,rfl,_,rfl,_,rfl,near,3,rfl,a,p,ns,i+1,_,rfl,j.T,(by lia),(by split<;>lia),λz k n u d h2=>⟨(c7 rfl),λq1 b=>q _ _ _ _ (var n ?_ d h2 b)⟩⟩;split at u<;>lia
theorem T9{a:D->Bool}:bu a true (.tup [.str "none"])=true:=by refine c_ (w:="none") (s:="") (by decide+kernel) (by decide+kernel) ?_;rw[show(Str.ofString "").cps.toList=[]by decide+kernel];simp[eh]
theorem Lu{a:D->Bool}{d0 b:D}(c:bu a true d0=true)(h1:bu a false b=true):bu a false (.tup [.str "like",d0,b])=true:=by refine c_ (w:="like") (s:="kt") (by decide+kernel) (by decide+kernel) ?_;rw[show(Str.ofString "kt").cps.toList=[107,116]by decide+kernel,aP,aP];simp[dv,eh,c,h1]
theorem HL{a:D->Bool}{d0 b c:D}(d:bu a true d0=true)(h1:bu a false b=true)(h2:bu a false c=true):bu a false (.tup [.str "pair",d0,b,c])=true:=by refine c_ (w:="pair") (s:="ktt") (by decide+kernel) (by decide+kernel) ?_;rw[show(Str.ofString "ktt").cps.toList=[107,116,116]by decide+kernel,aP,aP,aP];simp[dv,eh,d,h1,h2]
theorem oR{a:D->Bool}{d0:D}(b:bu a false d0=true):bu a false (.tup [.str "second",d0])=true:=by refine c_ (w:="second") (s:="t") (by decide+kernel) (by decide+kernel) ?_;rw[show(Str.ofString "t").cps.toList=[116]by decide+kernel,aP];simp[dv,eh,b]
theorem fK:aT ["_law_script","_law_tape","_law_deep","_law_near","_law_pool_here","_law_way","_law_first","_law_kind_here"] eQ (ar gX):=⟨rfl,rfl,rfl,by decide+kernel,rfl,by decide+kernel,by decide+kernel⟩
theorem E5{n:Nat}(D:Df K mg "_law_kind" gX eQ)(M:Mg mg t)(aC:bx P w K mg bF "_law_draw" (1) Bi (d_ K))(L:bx P w K mg bF "_law_kind" (3*n+132) eQ (eF K true n))(W:bx P w K mg bF "_law_term" (3*n+132) eQ (eF K false n)):bx P w K mg bF "_law_kind" (3*n+135) eQ (eF K true (n+1)):=by
 refine D.ok fK (λvs H Q E h=>?_) (λbase f cZ A outer s H vs Q E o h=>?_);·obtain⟨a,p,c,ns,i,deep,near,rfl,_⟩:=h;rfl
 obtain⟨a,p,c,ns,i,deep,near,rfl,g,hi,d0,d1,hn,J,n1,q⟩:=h;have i0:=g.T.i0;have e:=xp n;have Yy:=jh n;have e5:=BB n;have p1:=nR n;rw[e]at hi q;rw[e5]at q;refine⟨_,(ah (aH (i:=5) fK.nd rfl (cq rfl) (aI aC o.m rfl aM (ae (pv 0) (ae (pv 1) (ae ai ag))))) (ah (bf (L2.PW.pt (lF (aA kH (pv 2) ai (aR _)) (i9 (aA kH (pv 5) ai (aR _))))) (ak (aw (aS bK (bR (ae (aE (ae aq ag)) (ae (aE (ae aq ag)) (ae (aE (ae aq ag)) ag)))) (aJ e9 (pv 5) ai) (λ_ _=>rfl)))) aK) (ah (bf (aA kH (pv 5) ai (aR _)) (ah (aH (i:=6) fK.nd rfl (cq rfl) (aI L o.m rfl aM (ae (pv 0) (ae (pv 1) (ae (aJ bH (pv 2) ai) (ae (pv 3) (ae (pv 4) ag))))))) (ak (aw (aE (ae (aS bK (bR (ae aq (ae aq ag))) (aJ bH (pv 5) ai) (λ_ _=>rfl)) (ae (pv 6) (ae (aI L o.m rfl aM (ae (pv 0) (ae (pv 1) (ae (aJ bH (pv 2) ai) (ae (aJ bT (pv 3) ai) (ae (pv 4) ag)))))) ag))))))) aK) (ah (aH (i:=6) fK.nd rfl (cq rfl) (aI W o.m rfl aM (ae (pv 0) (ae (pv 1) (ae (aJ bH (pv 2) ai) (ae (pv 3) (ae (pv 4) ag))))))) (ah (aH (i:=7) fK.nd rfl (cq rfl) (aI L o.m rfl aM (ae (pv 0) (ae (pv 1) (ae (aJ bH (pv 2) ai) (ae (pv 3) (ae (pv 4) ag))))))) (ak (aw (aE (ae aq (ae (pv 7) (ae (pv 6) (ae (aI W o.m rfl aM (ae (pv 0) (ae (pv 1) (ae (aJ bH (pv 2) ai) (ae (pv 3) (ae (pv 4) ag)))))) ag)))))))))))),?_⟩;try dsimp only[gV,cP]
 refine SW ?_;intro _ _ _ _ _ _;refine⟨_,rfl,_,rfl,a,p,ns,i,7,rfl,g.T,(by lia),(by decide),λl m w0 w1 z h1=>?_⟩;have C:=g.next z h1 (by lia);have Vq:∀j:Hp,bD p H j->Sg K a p c ns j (i+1)->∀(x:Str)(r:Addr),(x="nat"\/x="none")->Rep j (.tup [.str x]) (.ref r)->Q (.ref r) j:=λj sx F x r I G=>by
  refine q (.tup [.str x]) _ j (i+1) ⟨G,?_,by simp only[depth,aN];lia,by simp only[aG,aO];lia,sx,F,by lia,by lia⟩;rcases I with rfl|rfl;·exact Cb
  ·exact T9
 refine⟨_,rfl,_,_,rfl,rfl,_,rfl,?_⟩;have UP:∀(R:VK),(∀(j:Hp)(x:Str)(r:Addr),bD p H j->Sg K a p c ns j (i+1)->(x="nat"\/x="none")->Rep j (.tup [.str x]) (.ref r)->R (.ref r) j)->∀(q1 q2 q3 q4:Addr),m q1=none->(upd m q1 (.tup [V.str "nat"])) q2=none->(upd (upd m q1 (.tup [V.str "nat"])) q2 (.tup [V.str "nat"])) q3=none->(upd (upd (upd m q1 (.tup [V.str "nat"])) q2 (.tup [V.str "nat"])) q3 (.tup [V.str "none"])) q4=none->∃v,lX [V.ref q1, .ref q2, .ref q3] (l%3)=some v/\(upd (upd (upd (upd m q1 (.tup [V.str "nat"])) q2 (.tup [V.str "nat"])) q3 (.tup [V.str "none"])) q4 (.lst [V.ref q1, .ref q2, .ref q3])) q4=some (.lst [V.ref q1, .ref q2, .ref q3])/\R v (upd (upd (upd (upd m q1 (.tup [V.str "nat"])) q2 (.tup [V.str "nat"])) q3 (.tup [V.str "none"])) q4 (.lst [V.ref q1, .ref q2, .ref q3])):=λR S q1 q2 q3 q4 e1 e2 e3 B=>by
  have t1:=ao e1 (.tup [V.str "nat"]);have t2:=ao e2 (.tup [V.str "nat"]);have U:=ao e3 (.tup [V.str "none"]);have t4:=ao B (.lst [V.ref q1, .ref q2, .ref q3]);have ra:=(dQ e1 (rs (gY (x:="nat")) r0)).mono (t2.trans (U.trans t4));have rb:=(dQ e2 (rs (gY (x:="nat")) r0)).mono (U.trans t4);have rc:=(dQ e3 (rs (gY (x:="none")) r0)).mono t4;have u:=t1.trans (t2.trans (U.trans t4));have h:l%3=0\/l%3=1\/l%3=2:=by lia
  rcases h with h|h|h;·exact⟨_,by rw[h];rfl,aj,S _ "nat" q1 (z.trans u.x) (C.mono u) (.inl rfl) ra⟩
  ·exact⟨_,by rw[h];rfl,aj,S _ "nat" q2 (z.trans u.x) (C.mono u) (.inl rfl) rb⟩
  ·exact⟨_,by rw[h];rfl,aj,S _ "none" q3 (z.trans u.x) (C.mono u) (.inr rfl) rc⟩
 have one:1<=sizeLine:=by decide
 refine ba (λcd=>?_) (λcd=>?_);·refine lZ ⟨one,λq1 e1=>⟨one,λq2 e2=>⟨one,λq3 e3=>⟨(c7 rfl),λq4 B=>?_⟩⟩⟩⟩;obtain⟨v,T,h4,hq⟩:=UP Q (λj x r sx F I G=>Vq j sx F x r I G) q1 q2 q3 q4 e1 e2 e3 B;exact⟨_,rfl,_,_,rfl,rfl,(by show(0:Int)<3;decide),q4,_,_,v,rfl,rfl,bE.of h4,T,hq⟩
 refine⟨_,rfl,_,_,rfl,rfl,_,rfl,?_⟩;refine ba (λN=>?_) (λN=>?_);·refine⟨one,λq1 e1=>⟨one,λq2 e2=>⟨one,λq3 e3=>⟨(c7 rfl),λq4 B=>?_⟩⟩⟩⟩;obtain⟨v,T,h4,hq⟩:=UP Q (λj x r sx F I G=>Vq j sx F x r I G) q1 q2 q3 q4 e1 e2 e3 B;exact⟨_,rfl,_,_,rfl,rfl,(by show(0:Int)<3;decide),q4,_,_,v,rfl,rfl,bE.of h4,T,hq⟩
 have cd:¬deep<1:=of_decide_eq_false (Bool.eq_false_iff.mpr cd);have N:¬l<3:=of_decide_eq_false (Bool.eq_false_iff.mpr N);refine⟨_,rfl,_,_,rfl,rfl,_,rfl,?_⟩;refine ba (λO=>?_) (λO=>?_)
 ·have O:l<5:=of_decide_eq_true O;refine⟨_,rfl,_,rfl,_,rfl,_,_,rfl,rfl,_,rfl,_,rfl,a,p,c,ns,i+1,deep-1,near,rfl,C,(by lia),(by lia),(by lia),(by lia),J,(by lia),λX vA j i2 d=>?_⟩;refine⟨(c7 rfl),λq1 e1=>?_⟩;have t1:=ao e1 (.lst [V.str "all", .str "some"]);obtain⟨y,hy,Z⟩:∃y:Str,lX [V.str "all", .str "some"] (l-3)=some (.str y)/\(y="all"\/y="some"):=by
   have :l=3\/l=4:=by lia
   rcases this with rfl|rfl;·exact⟨_,rfl, .inl rfl⟩
   ·exact⟨_,rfl, .inr rfl⟩
  have hA:=d.hi;have lA:=d.lo;refine⟨_,rfl,_,_,rfl,rfl,q1,_,_,_,rfl,rfl,bE.of aj,hy,_,rfl,?_⟩;refine⟨_,rfl,_,rfl,_,rfl,_,_,rfl,rfl,_,rfl,_,_,rfl,rfl,_,rfl,a,p,c,ns,i2,deep-1,near+1,rfl,d.g.mono t1,(by lia),(by lia),(by lia),(by lia),(by lia),(by lia),λY vB H3 i3 b=>⟨(c7 rfl),λq2 e2=>?_⟩⟩;have hB:=b.hi;have lB:=b.lo;have sAB:=t1.x.trans b.sx;have a1:=d.dp;have a2:=b.dp;have a3:=d.kn;have a4:=b.kn;have hw:bu ay true (.tup [.str y,X,Y])=true:=by
   rcases Z with rfl|rfl;·exact FO d.wf b.wf
   ·exact IJ d.wf b.wf
  have hyl:y.length<=1000:=by rcases Z with rfl|rfl<;>decide
  exact q _ _ _ _ (made ((z.trans d.sx).trans sAB) b.g e2 (rs (gY hyl) (rs (d.later sAB) (rs b.r r0))) hw (by apply KM.d0;with_reducible repeat' first|apply KM.n9|apply KM.nY|apply KM.q0|apply KM.q4|apply KM.q3|apply KM.q2|apply KM.q1|lia) (by simp only[aG,aO];lia) (by lia) (by lia))
 ·refine⟨_,rfl,_,rfl,_,rfl,_,_,rfl,rfl,_,rfl,_,rfl,a,p,c,ns,i+1,deep-1,near,rfl,C,(by lia),(by lia),(by lia),(by lia),J,(by lia),λX vA j i2 d=>?_⟩;have hA:=d.hi;have lA:=d.lo;refine⟨_,rfl,_,rfl,_,rfl,_,_,rfl,rfl,_,rfl,_,rfl,a,p,c,ns,i2,deep-2,near,rfl,d.g,(by lia),(by lia),(by lia),(by lia),J,(by lia),λY vB H3 i3 b=>?_⟩;have hB:=b.hi;have lB:=b.lo;refine⟨_,rfl,_,rfl,_,rfl,_,rfl,_,rfl,_,_,rfl,rfl,_,rfl,_,rfl,a,p,c,ns,i3,deep-1,near,rfl,b.g,(by lia),(by lia),(by lia),(by lia),J,(by lia),λdC vC H4 i4 k=>⟨(c7 rfl),λq2 e2=>?_⟩⟩;have hC:=k.hi;have lC:=k.lo;have a1:=d.dp;have a2:=b.dp;have a3:=d.kn;have a4:=b.kn;have a5:=k.dp;have a6:=k.kn;exact q _ _ _ _ (made ((z.trans d.sx).trans (b.sx.trans k.sx)) k.g e2 (rs gY (rs (b.later k.sx) (rs (d.later (b.sx.trans k.sx)) (rs k.r r0)))) (Tn b.wf d.wf k.wf) (by apply KM.d0;with_reducible repeat' first|apply KM.n9|apply KM.nY|apply KM.q0|apply KM.q4|apply KM.q3|apply KM.q2|apply KM.q1|lia) (by simp only[aG,aO];lia) (by lia) (by lia))
theorem yE:aT ["_law_script","_law_tape","_law_deep","_law_near","_law_pool_here","_law_kind_here"] eQ (ar iS):=⟨rfl,rfl,rfl,by decide+kernel,rfl,by decide+kernel,by decide+kernel⟩
theorem MT{n:Nat}(D:Df K mg "_law_fun" iS eQ)(M:Mg mg t)(j:bx P w K mg bF "_law_kind" (3*n+132) eQ (eF K true n))(k:bx P w K mg bF "_law_term" (3*n+132) eQ (eF K false n)):bx P w K mg bF "_law_fun" (3*n+133) eQ (kj K n (2*n+3) (1+6*p5 n) (2*cst n)):=by
 refine D.ok yE (λvs H Q E h=>?_) (λbase f cZ A outer s H vs Q E e h=>?_);·obtain⟨a,p,c,ns,i,deep,near,rfl,_⟩:=h;rfl
 obtain⟨a,p,c,ns,i,deep,near,rfl,g,hi,d0,u,hn,L,N,q⟩:=h;have i0:=g.T.i0;have o:=jh n;have O:=nR n;refine⟨_,(ah (aH (i:=5) yE.nd rfl (cq rfl) (aI j e.m rfl aM (ae (pv 0) (ae (pv 1) (ae (aJ bH (pv 2) ai) (ae (pv 3) (ae (pv 4) ag))))))) (ak (aw (aE (ae aq (ae (pv 5) (ae (aI k e.m rfl aM (ae (pv 0) (ae (pv 1) (ae (aJ bH (pv 2) ai) (ae (aJ bT (pv 3) ai) (ae (pv 4) ag)))))) ag))))))),?_⟩;try dsimp only[gV,r]
 refine qM ?_;intro _ _;refine⟨_,rfl,_,rfl,_,rfl,_,_,rfl,rfl,_,rfl,_,rfl,a,p,c,ns,i,deep-2,near,rfl,g,(by lia),(by lia),(by lia),(by lia),(by lia),(by lia),λv R l i1 d=>?_⟩;have B:=d.hi;have I:=d.lo;have y:=d.dp;have F:=d.kn;refine⟨_,rfl,_,rfl,_,rfl,_,rfl,_,_,rfl,rfl,_,rfl,_,_,rfl,rfl,_,rfl,a,p,c,ns,i1,deep-1,near+1,rfl,d.g,(by lia),(by lia),(by lia),(by lia),(by lia),(by lia),λx S m i2 b=>?_⟩;have C:=b.hi;have J:=b.lo;have z:=b.dp;have G:=b.kn;refine⟨(c7 rfl),λq1 e1=>?_⟩;exact q _ _ _ _ (made (d.sx.trans b.sx) b.g e1 (rs gY (rs (d.later b.sx) (rs b.r r0))) (Qq d.wf b.wf) (by apply KM.d0;with_reducible repeat' first|apply KM.n9|apply KM.nY|apply KM.q0|apply KM.q4|apply KM.q3|apply KM.q2|apply KM.q1|lia) (by simp only[aG,aO];lia) (by lia) (by lia))
theorem j7:aT ["_law_script","_law_tape","_law_deep","_law_near","_law_pool_here","_law_kind_here","_law_first"] eQ (ar gL):=⟨rfl,rfl,rfl,by decide+kernel,rfl,by decide+kernel,by decide+kernel⟩
theorem Gg{n:Nat}(D:Df K mg "_law_pair" gL eQ)(M:Mg mg t)(l:bx P w K mg bF "_law_kind" (3*n+132) eQ (eF K true n))(k:bx P w K mg bF "_law_term" (3*n+132) eQ (eF K false n)):bx P w K mg bF "_law_pair" (3*n+133) eQ (kj K n (2*n+3) (1+9*p5 n) (3*cst n)):=by
 refine D.ok j7 (λvs H Q E h=>?_) (λbase f cZ A outer s H vs Q E j h=>?_);·obtain⟨a,p,c,ns,i,deep,near,rfl,_⟩:=h;rfl
 obtain⟨a,p,c,ns,i,deep,near,rfl,g,hi,d0,x,hn,W,X,q⟩:=h;have i0:=g.T.i0;have u:=jh n;have Y:=nR n;refine⟨_,(ah (aH (i:=5) j7.nd rfl (cq rfl) (aI l j.m rfl aM (ae (pv 0) (ae (pv 1) (ae (aJ bH (pv 2) ai) (ae (pv 3) (ae (pv 4) ag))))))) (ah (aH (i:=6) j7.nd rfl (cq rfl) (aI k j.m rfl aM (ae (pv 0) (ae (pv 1) (ae (aJ bH (pv 2) ai) (ae (pv 3) (ae (pv 4) ag))))))) (ak (aw (aE (ae aq (ae (pv 5) (ae (pv 6) (ae (aI k j.m rfl aM (ae (pv 0) (ae (pv 1) (ae (aJ bH (pv 2) ai) (ae (pv 3) (ae (pv 4) ag)))))) ag))))))))),?_⟩;try dsimp only[gV,v]
 refine zu ?_;intro _ _ _;refine⟨_,rfl,_,rfl,_,rfl,_,_,rfl,rfl,_,rfl,_,rfl,a,p,c,ns,i,deep-2,near,rfl,g,(by lia),(by lia),(by lia),(by lia),(by lia),(by lia),λy Z m i1 e=>?_⟩;have I:=e.hi;have T:=e.lo;have C:=e.dp;have O:=e.kn;refine⟨_,rfl,_,rfl,_,rfl,_,_,rfl,rfl,_,rfl,_,rfl,a,p,c,ns,i1,deep-1,near,rfl,e.g,(by lia),(by lia),(by lia),(by lia),(by lia),(by lia),λz vB o i2 d=>?_⟩;have J:=d.hi;have U:=d.lo;have F:=d.dp;have R:=d.kn;refine⟨_,rfl,_,rfl,_,rfl,_,rfl,_,rfl,_,_,rfl,rfl,_,rfl,_,rfl,a,p,c,ns,i2,deep-1,near,rfl,d.g,(by lia),(by lia),(by lia),(by lia),(by lia),(by lia),λB vC r N b=>?_⟩;have L:=b.hi;have V:=b.lo;have G:=b.dp;have S:=b.kn;refine⟨(c7 rfl),λq1 e1=>?_⟩;exact q _ _ _ _ (made (e.sx.trans (d.sx.trans b.sx)) b.g e1 (rs gY (rs (e.later (d.sx.trans b.sx)) (rs (d.later b.sx) (rs b.r r0)))) (HL e.wf d.wf b.wf) (by apply KM.d0;with_reducible repeat' first|apply KM.n9|apply KM.nY|apply KM.q0|apply KM.q4|apply KM.q3|apply KM.q2|apply KM.q1|lia) (by simp only[aG,aO];lia) (by lia) (by lia))
theorem pW:aT ["_law_script","_law_tape","_law_deep","_law_near","_law_pool_here","_law_kind_here"] eQ (ar gR):=⟨rfl,rfl,rfl,by decide+kernel,rfl,by decide+kernel,by decide+kernel⟩
theorem GZ{n:Nat}(D:Df K mg "_law_like" gR eQ)(M:Mg mg t)(j:bx P w K mg bF "_law_kind" (3*n+132) eQ (eF K true n))(k:bx P w K mg bF "_law_term" (3*n+132) eQ (eF K false n)):bx P w K mg bF "_law_like" (3*n+133) eQ (kj K n (2*n+3) (1+6*p5 n) (2*cst n)):=by
 refine D.ok pW (λvs H Q E h=>?_) (λbase f cZ A outer s H vs Q E e h=>?_);·obtain⟨a,p,c,ns,i,deep,near,rfl,_⟩:=h;rfl
 obtain⟨a,p,c,ns,i,deep,near,rfl,g,hi,d0,u,hn,L,N,q⟩:=h;have i0:=g.T.i0;have o:=jh n;have O:=nR n;refine⟨_,(ah (aH (i:=5) pW.nd rfl (cq rfl) (aI j e.m rfl aM (ae (pv 0) (ae (pv 1) (ae (aJ bH (pv 2) ai) (ae (pv 3) (ae (pv 4) ag))))))) (ak (aw (aE (ae aq (ae (pv 5) (ae (aI k e.m rfl aM (ae (pv 0) (ae (pv 1) (ae (aJ bH (pv 2) ai) (ae (pv 3) (ae (pv 4) ag)))))) ag))))))),?_⟩;try dsimp only[gV,r]
 refine qM ?_;intro _ _;refine⟨_,rfl,_,rfl,_,rfl,_,_,rfl,rfl,_,rfl,_,rfl,a,p,c,ns,i,deep-2,near,rfl,g,(by lia),(by lia),(by lia),(by lia),(by lia),(by lia),λv R l i1 d=>?_⟩;have B:=d.hi;have I:=d.lo;have y:=d.dp;have F:=d.kn;refine⟨_,rfl,_,rfl,_,rfl,_,rfl,_,_,rfl,rfl,_,rfl,_,rfl,a,p,c,ns,i1,deep-1,near,rfl,d.g,(by lia),(by lia),(by lia),(by lia),(by lia),(by lia),λx S m i2 b=>?_⟩;have C:=b.hi;have J:=b.lo;have z:=b.dp;have G:=b.kn;refine⟨(c7 rfl),λq1 e1=>?_⟩;exact q _ _ _ _ (made (d.sx.trans b.sx) b.g e1 (rs gY (rs (d.later b.sx) (rs b.r r0))) (Lu d.wf b.wf) (by apply KM.d0;with_reducible repeat' first|apply KM.n9|apply KM.nY|apply KM.q0|apply KM.q4|apply KM.q3|apply KM.q2|apply KM.q1|lia) (by simp only[aG,aO];lia) (by lia) (by lia))
theorem zx:aT eQ eQ (ar eZ):=⟨rfl,rfl,rfl,by decide+kernel,rfl,by decide+kernel,by decide+kernel⟩
theorem AJ{n:Nat}(D:Df K mg "_law_number" eZ eQ)(M:Mg mg t)(j:bx P w K mg bF "_law_draw" (1) Bi (d_ K))(k:bx P w K mg bF "_law_term" (3*n+132) eQ (eF K false n)):bx P w K mg bF "_law_number" (3*n+133) eQ (kj K n (2*n+3) (1+3*p5 n) (1+cst n)):=by
 refine D.ok zx (λvs H Q E h=>?_) (λbase f cZ A outer s H vs Q E e h=>?_);·obtain⟨a,p,c,ns,i,deep,near,rfl,_⟩:=h;rfl
 obtain⟨a,p,c,ns,i,deep,near,rfl,g,hi,d0,v,hn,F,G,q⟩:=h;have i0:=g.T.i0;have r:=jh n;have I:=nR n;refine⟨_,(ah (bf (aA bQ (aI j e.m rfl aM (ae (pv 0) (ae (pv 1) (ae ai ag)))) ai (aR _)) (ak (aw (aE (ae aq ag)))) aK) (ak (aw (aE (ae aq (ae (aI k e.m rfl aM (ae (pv 0) (ae (pv 1) (ae (aJ bH (pv 2) ai) (ae (pv 3) (ae (pv 4) ag)))))) ag)))))),?_⟩;try dsimp only[gV,u]
 refine qM ?_;intro _ _;refine⟨_,rfl,_,rfl,a,p,ns,i,3,rfl,g.T,(by lia),(by decide),λL m w0 w1 x0 l=>⟨rfl,_,rfl,?_⟩⟩;have d:=g.next x0 l (by lia);refine ba (λ_=>?_) (λ_=>?_);·refine⟨(c7 rfl),λq1 e1=>?_⟩;exact q _ _ _ _ (made x0 d e1 (rs gY r0) jq (by apply KM.d0;with_reducible repeat' first|apply KM.n9|apply KM.nY|apply KM.q0|apply KM.q4|apply KM.q3|apply KM.q2|apply KM.q1|lia) (by simp only[aG,aO];lia) (by lia) (by lia))
 refine⟨_,rfl,_,rfl,_,rfl,_,_,rfl,rfl,_,rfl,_,rfl,a,p,c,ns,i+1,deep-1,near,rfl,d,(by lia),(by lia),(by lia),(by lia),(by lia),(by lia),λx J o i1 b=>?_⟩;have z:=b.hi;have C:=b.lo;have y:=b.dp;have B:=b.kn;refine⟨(c7 rfl),λq1 e1=>?_⟩;exact q _ _ _ _ (made (x0.trans b.sx) b.g e1 (rs gY (rs b.r r0)) (wU b.wf) (by apply KM.d0;with_reducible repeat' first|apply KM.n9|apply KM.nY|apply KM.q0|apply KM.q4|apply KM.q3|apply KM.q2|apply KM.q1|lia) (by simp only[aG,aO];lia) (by lia) (by lia))
def Hu(K:PySem.W.Frag)(n dp kn:Nat)(co:Int):Sp:=λvs H Q _=>∃(a p c:Addr)(ns:List Int)(i deep near b:Int),vs=[.ref a, .ref p, .int deep, .int near, .ref c, .int b]/\Sg K a p c ns H i/\i+9*cst n<2^58/\1<=deep/\deep<n/\n<=9/\0<=near/\near+n+1<=99/\∀(d:D)(v:V)(H':Hp)(i':Int),Ou K a p c ns H i false dp kn co d v H' i'->Q v H'
theorem eG:aT ["_law_script","_law_tape","_law_deep","_law_near","_law_pool_here","_law_way","_law_word_here","_law_kind_here","_law_first","_law_second"] LC (ar fb):=⟨rfl,rfl,rfl,by decide+kernel,rfl,by decide+kernel,by decide+kernel⟩
theorem Cy{n:Nat}(D:Df K mg "_law_parted" fb LC)(M:Mg mg t)(S:bx P w K mg bF "_law_draw" (1) Bi (d_ K))(W:bx P w K mg bF "_law_kind" (3*n+132) eQ (eF K true n))(u:bx P w K mg bF "_law_term" (3*n+132) eQ (eF K false n))(U:bx P w K mg bF "_law_fun" (3*n+133) eQ (kj K n (2*n+3) (1+6*p5 n) (2*cst n)))(Z:bx P w K mg bF "_law_pair" (3*n+133) eQ (kj K n (2*n+3) (1+9*p5 n) (3*cst n)))(X:bx P w K mg bF "_law_like" (3*n+133) eQ (kj K n (2*n+3) (1+6*p5 n) (2*cst n)))(Y:bx P w K mg bF "_law_number" (3*n+133) eQ (kj K n (2*n+3) (1+3*p5 n) (1+cst n))):bx P w K mg bF "_law_parted" (3*n+134) LC (Hu K n (2*n+4) (2+12*p5 n) (2+5*cst n)):=by
 refine D.ok eG (λvs H Q E h=>?_) (λbase f cZ A outer s H vs Q E l h=>?_);·obtain⟨a,p,c,ns,i,deep,near,way,rfl,_⟩:=h;rfl
 obtain⟨a,p,c,ns,i,deep,near,way,rfl,g,hi,d0,m,hn,o,r,q⟩:=h;have i0:=g.T.i0;have Yy:=jh n;have p1:=nR n;refine⟨_,(ah (bf (aA bQ (pv 5) ai (aR _)) (ak (aw (aE (ae aq (ae (aI U l.m rfl aM (ae (pv 0) (ae (pv 1) (ae (pv 2) (ae (pv 3) (ae (pv 4) ag)))))) (ae (aI u l.m rfl aM (ae (pv 0) (ae (pv 1) (ae (aJ bH (pv 2) ai) (ae (pv 3) (ae (pv 4) ag)))))) ag)))))) aK) (ah (bf (aA bQ (pv 5) ai (aR _)) (ah (aH (i:=6) eG.nd rfl (cq rfl) (aS bK (bR (ae aq (ae aq ag))) (aI S l.m rfl aM (ae (pv 0) (ae (pv 1) (ae ai ag)))) (λ_ _=>rfl))) (ak (aw (aE (ae (pv 6) (ae (aI Z l.m rfl aM (ae (pv 0) (ae (pv 1) (ae (pv 2) (ae (pv 3) (ae (pv 4) ag)))))) ag)))))) aK) (ah (aH (i:=7) eG.nd rfl (cq rfl) (aI W l.m rfl aM (ae (pv 0) (ae (pv 1) (ae (aJ bH (pv 2) ai) (ae (aJ bT (pv 3) ai) (ae (pv 4) ag))))))) (ah (aH (i:=8) eG.nd rfl (cq rfl) (aI u l.m rfl aM (ae (pv 0) (ae (pv 1) (ae (aJ bH (pv 2) ai) (ae (pv 3) (ae (pv 4) ag))))))) (ah (bf (aA bQ (pv 5) ai (aR _)) (ak (aw (aE (ae aq (ae (pv 7) (ae (pv 8) (ae (aI X l.m rfl aM (ae (pv 0) (ae (pv 1) (ae (pv 2) (ae (pv 3) (ae (pv 4) ag)))))) ag))))))) aK) (ah (aH (i:=9) eG.nd rfl (cq rfl) (aI u l.m rfl aM (ae (pv 0) (ae (pv 1) (ae (aJ bH (pv 2) ai) (ae (pv 3) (ae (pv 4) ag))))))) (ak (aw (aE (ae aq (ae (pv 7) (ae (pv 8) (ae (pv 9) (ae (aI Y l.m rfl aM (ae (pv 0) (ae (pv 1) (ae (pv 2) (ae (pv 3) (ae (pv 4) ag)))))) ag)))))))))))))),?_⟩;try dsimp only[gV,cP]
 refine abG ?_;intro _ _ _ _ _ _ _;refine⟨_,rfl,rfl,_,rfl,ba (λ_=>?_) (λ_=>?_)⟩;·refine⟨_,rfl,_,rfl,_,rfl,_,rfl,_,rfl,a,p,c,ns,i,deep,near,rfl,g,(by lia),d0,m,(by lia),o,r,λF R C i1 b=>?_⟩;have I:=b.hi;have O:=b.lo;have G:=b.dp;have N:=b.kn;refine⟨_,rfl,_,rfl,_,rfl,_,_,rfl,rfl,_,rfl,_,rfl,a,p,c,ns,i1,deep-1,near,rfl,b.g,(by lia),(by lia),(by lia),(by lia),(by lia),(by lia),λdB vB H2 i2 e=>?_⟩;have hB:=e.hi;have lB:=e.lo;have dpB:=e.dp;have knB:=e.kn;refine⟨(c7 rfl),λq1 e1=>?_⟩;exact q _ _ _ _ (made (b.sx.trans e.sx) e.g e1 (rs gY (rs (b.later e.sx) (rs e.r r0))) (oI b.wf e.wf) (by apply KM.d0;with_reducible repeat' first|apply KM.n9|apply KM.nY|apply KM.q0|apply KM.q4|apply KM.q3|apply KM.q2|apply KM.q1|lia) (by simp only[aG,aO];lia) (by lia) (by lia))
 refine⟨_,rfl,rfl,_,rfl,ba (λ_=>?_) (λ_=>?_)⟩
 ·refine⟨(c7 rfl),λq0 e0=>?_⟩;have v:=ao e0 (.lst [V.str "first", .str "second"]);refine⟨_,rfl,_,rfl,a,p,ns,i,2,rfl,(g.mono v).T,(by lia),(by decide),λx H9 w0 w1 B h9=>?_⟩;have g9:=(g.mono v).next B h9 (by lia);obtain⟨y,hy,J⟩:∃y:Str,lX [V.str "first", .str "second"] x=some (.str y)/\(y="first"\/y="second"):=by
   have :x=0\/x=1:=by lia
   rcases this with rfl|rfl;·exact⟨_,rfl, .inl rfl⟩
   ·exact⟨_,rfl, .inr rfl⟩
  have zq:q0≠p:=λz=>by subst z;rw[g.T.dq]at e0;cases e0
  have hq0:=B _ _ zq (show(upd _ q0 (.lst [V.str "first", .str "second"])) q0=some _ from aj);have hyl:y.length<=1000:=by rcases J with rfl|rfl<;>decide
  have hwy:∀{d:KM.D},bu ay false d=true->bu ay false (.tup [.str y,d])=true:=λh=>by
   rcases J with rfl|rfl;·exact ER h
   ·exact oR h
  refine⟨q0,_,_,_,rfl,rfl,bE.of hq0,hy,?_⟩;refine⟨_,rfl,_,rfl,_,rfl,_,rfl,_,rfl,_,rfl,a,p,c,ns,i+1,deep,near,rfl,g9,(by lia),d0,m,(by lia),o,r,λF R C i1 b=>?_⟩;have I:=b.hi;have O:=b.lo;have G:=b.dp;have N:=b.kn;refine⟨(c7 rfl),λq1 e1=>?_⟩;exact q _ _ _ _ (made ((v.x.trans B).trans b.sx) b.g e1 (rs (gY hyl) (rs b.r r0)) (hwy b.wf) (by apply KM.d0;with_reducible repeat' first|apply KM.n9|apply KM.nY|apply KM.q0|apply KM.q4|apply KM.q3|apply KM.q2|apply KM.q1|lia) (by simp only[aG,aO];lia) (by lia) (by lia))
 refine⟨_,rfl,_,rfl,_,rfl,_,_,rfl,rfl,_,rfl,_,_,rfl,rfl,_,rfl,a,p,c,ns,i,deep-2,near+1,rfl,g,(by lia),(by lia),(by lia),(by lia),(by lia),(by lia),λF R C i1 b=>?_⟩;have I:=b.hi;have O:=b.lo;have G:=b.dp;have N:=b.kn;refine⟨_,rfl,_,rfl,_,rfl,_,_,rfl,rfl,_,rfl,_,rfl,a,p,c,ns,i1,deep-1,near,rfl,b.g,(by lia),(by lia),(by lia),(by lia),(by lia),(by lia),λdB vB H2 i2 e=>?_⟩;have hB:=e.hi;have lB:=e.lo;have dpB:=e.dp;have knB:=e.kn;refine⟨_,rfl,rfl,_,rfl,ba (λ_=>?_) (λ_=>?_)⟩;·refine⟨_,rfl,_,rfl,_,rfl,_,rfl,_,rfl,_,rfl,_,rfl,a,p,c,ns,i2,deep,near,rfl,e.g,(by lia),d0,m,(by lia),o,r,λdC vC H3 L j=>?_⟩;have hC:=j.hi;have lC:=j.lo;have dpC:=j.dp;have knC:=j.kn;refine⟨(c7 rfl),λq1 e1=>?_⟩;exact q _ _ _ _ (made (b.sx.trans (e.sx.trans j.sx)) j.g e1 (rs gY (rs (b.later (e.sx.trans j.sx)) (rs (e.later j.sx) (rs j.r r0)))) (EL b.wf e.wf j.wf) (by apply KM.d0;with_reducible repeat' first|apply KM.n9|apply KM.nY|apply KM.q0|apply KM.q4|apply KM.q3|apply KM.q2|apply KM.q1|lia) (by simp only[aG,aO];lia) (by lia) (by lia))
 refine⟨_,rfl,_,rfl,_,rfl,_,_,rfl,rfl,_,rfl,_,rfl,a,p,c,ns,i2,deep-1,near,rfl,e.g,(by lia),(by lia),(by lia),(by lia),(by lia),(by lia),λdC vC H3 L j=>?_⟩;have hC:=j.hi;have lC:=j.lo;have dpC:=j.dp;have knC:=j.kn;refine⟨_,rfl,_,rfl,_,rfl,_,rfl,_,rfl,_,rfl,_,rfl,_,rfl,a,p,c,ns,L,deep,near,rfl,j.g,(by lia),d0,m,(by lia),o,r,λdE vE H4 i4 k=>?_⟩;have hE:=k.hi;have lE:=k.lo;have dpE:=k.dp;have knE:=k.kn;refine⟨(c7 rfl),λq1 e1=>?_⟩;exact q _ _ _ _ (made (b.sx.trans (e.sx.trans (j.sx.trans k.sx))) k.g e1 (rs gY (rs (b.later (e.sx.trans (j.sx.trans k.sx))) (rs (e.later (j.sx.trans k.sx)) (rs (j.later k.sx) (rs k.r r0))))) (AZ b.wf e.wf j.wf k.wf) (by apply KM.d0;with_reducible repeat' first|apply KM.n9|apply KM.nY|apply KM.q0|apply KM.q4|apply KM.q3|apply KM.q2|apply KM.q1|lia) (by simp only[aG,aO];lia) (by lia) (by lia))
theorem gs:aT ["_law_script","_law_tape","_law_deep","_law_near","_law_pool_here","_law_way","_law_one","_law_two","_law_three"] LC (ar fQ):=⟨rfl,rfl,rfl,by decide+kernel,rfl,by decide+kernel,by decide+kernel⟩
theorem Ej{n:Nat}(D:Df K mg "_law_still" fQ LC)(M:Mg mg t)(U:bx P w K mg bF "_law_draw" (1) Bi (d_ K))(I:bx P w K mg bF "_law_kind" (3*n+132) eQ (eF K true n))(m:bx P w K mg bF "_law_term" (3*n+132) eQ (eF K false n))(W:bx P w K mg bF "_law_fun" (3*n+133) eQ (kj K n (2*n+3) (1+6*p5 n) (2*cst n)))(Y:bx P w K mg bF "_law_pair" (3*n+133) eQ (kj K n (2*n+3) (1+9*p5 n) (3*cst n)))(X:bx P w K mg bF "_law_like" (3*n+133) eQ (kj K n (2*n+3) (1+6*p5 n) (2*cst n))):bx P w K mg bF "_law_still" (3*n+134) LC (Hu K n (2*n+4) (1+12*p5 n) (1+4*cst n)):=by
 refine D.ok gs (λvs H Q E h=>?_) (λbase f cZ A outer s H vs Q E k h=>?_);·obtain⟨a,p,c,ns,i,deep,near,way,rfl,_⟩:=h;rfl
 obtain⟨a,p,c,ns,i,deep,near,way,rfl,g,hi,d0,J,hn,L,N,q⟩:=h;have i0:=g.T.i0;have Yy:=jh n;have p1:=nR n;refine⟨_,(ah (bf (aA kH (pv 5) ai (aR _)) (ak (aw (aE (ae aq (ae (aI m k.m rfl aM (ae (pv 0) (ae (pv 1) (ae (aJ bH (pv 2) ai) (ae (pv 3) (ae (pv 4) ag)))))) ag))))) aK) (ah (bf (aA bQ (pv 5) ai (aR _)) (ak (aw (aI W k.m rfl aM (ae (pv 0) (ae (pv 1) (ae (pv 2) (ae (pv 3) (ae (pv 4) ag)))))))) aK) (ah (bf (aA bQ (pv 5) ai (aR _)) (ak (aw (aI Y k.m rfl aM (ae (pv 0) (ae (pv 1) (ae (pv 2) (ae (pv 3) (ae (pv 4) ag)))))))) aK) (ah (bf (aA bQ (pv 5) ai (aR _)) (ak (aw (aI X k.m rfl aM (ae (pv 0) (ae (pv 1) (ae (pv 2) (ae (pv 3) (ae (pv 4) ag)))))))) aK) (ah (aH (i:=6) gs.nd rfl (cq rfl) (aI m k.m rfl aM (ae (pv 0) (ae (pv 1) (ae (aJ bH (pv 2) ai) (ae (pv 3) (ae (pv 4) ag))))))) (ah (bf (aA bQ (pv 5) ai (aR _)) (ak (aw (aE (ae aq (ae (aI I k.m rfl aM (ae (pv 0) (ae (pv 1) (ae (aJ bH (pv 2) ai) (ae (pv 3) (ae (pv 4) ag)))))) (ae (pv 6) ag)))))) aK) (ah (bf (aA bQ (pv 5) ai (aR _)) (ak (aw (aE (ae (aS bK (bR (ae aq (ae aq ag))) (aI U k.m rfl aM (ae (pv 0) (ae (pv 1) (ae ai ag)))) (λ_ _=>rfl)) (ae (pv 6) ag))))) aK) (ah (aH (i:=7) gs.nd rfl (cq rfl) (aI m k.m rfl aM (ae (pv 0) (ae (pv 1) (ae (aJ bH (pv 2) ai) (ae (pv 3) (ae (pv 4) ag))))))) (ah (bf (aA bQ (pv 5) ai (aR _)) (ak (aw (aE (ae aq (ae (pv 6) (ae (pv 7) ag)))))) aK) (ah (bf (aA bQ (pv 5) ai (aR _)) (ak (aw (aE (ae aq (ae (aI I k.m rfl aM (ae (pv 0) (ae (pv 1) (ae (aJ bH (pv 2) ai) (ae (aJ bT (pv 3) ai) (ae (pv 4) ag)))))) (ae (pv 6) (ae (pv 7) ag))))))) aK) (ah (aH (i:=8) gs.nd rfl (cq rfl) (aI m k.m rfl aM (ae (pv 0) (ae (pv 1) (ae (aJ bH (pv 2) ai) (ae (pv 3) (ae (pv 4) ag))))))) (ak (aw (aE (ae aq (ae (aI I k.m rfl aM (ae (pv 0) (ae (pv 1) (ae (aJ bH (pv 2) ai) (ae (aJ bT (pv 3) ai) (ae (pv 4) ag)))))) (ae (pv 6) (ae (pv 7) (ae (pv 8) ag))))))))))))))))))),?_⟩;try dsimp only[gV,cP]
 refine aaD ?_;intro _ _ _ _ _ _ _ _ _ _ _ _;refine⟨_,rfl,_,_,rfl,rfl,_,rfl,ba (λ_=>?_) (λ_=>?_)⟩;·refine⟨_,rfl,_,rfl,_,rfl,_,_,rfl,rfl,_,rfl,_,rfl,a,p,c,ns,i,deep-1,near,rfl,g,(by lia),(by lia),(by lia),(by lia),(by lia),(by lia),λr F o i1 b=>?_⟩;have v:=b.hi;have B:=b.lo;have u:=b.dp;have x:=b.kn;refine⟨(c7 rfl),λq1 e1=>?_⟩;exact q _ _ _ _ (made (b.sx) b.g e1 (rs gY (rs b.r r0)) (wU b.wf) (by apply KM.d0;with_reducible repeat' first|apply KM.n9|apply KM.nY|apply KM.q0|apply KM.q4|apply KM.q3|apply KM.q2|apply KM.q1|lia) (by simp only[aG,aO];lia) (by lia) (by lia))
 refine⟨_,rfl,rfl,_,rfl,ba (λ_=>?_) (λ_=>?_)⟩;·refine⟨_,rfl,_,rfl,_,rfl,_,rfl,_,rfl,a,p,c,ns,i,deep,near,rfl,g,(by lia),d0,J,(by lia),L,N,λr F o i1 b=>?_⟩;have v:=b.hi;have B:=b.lo;have u:=b.dp;have x:=b.kn;exact q _ _ _ _ (b.weak (by lia) (by lia) (by lia))
 refine⟨_,rfl,rfl,_,rfl,ba (λ_=>?_) (λ_=>?_)⟩;·refine⟨_,rfl,_,rfl,_,rfl,_,rfl,_,rfl,a,p,c,ns,i,deep,near,rfl,g,(by lia),d0,J,(by lia),L,N,λr F o i1 b=>?_⟩;have v:=b.hi;have B:=b.lo;have u:=b.dp;have x:=b.kn;exact q _ _ _ _ (b.weak (by lia) (by lia) (by lia))
 refine⟨_,rfl,rfl,_,rfl,ba (λ_=>?_) (λ_=>?_)⟩;·refine⟨_,rfl,_,rfl,_,rfl,_,rfl,_,rfl,a,p,c,ns,i,deep,near,rfl,g,(by lia),d0,J,(by lia),L,N,λr F o i1 b=>?_⟩;have v:=b.hi;have B:=b.lo;have u:=b.dp;have x:=b.kn;exact q _ _ _ _ (b.weak (by lia) (by lia) (by lia))
 refine⟨_,rfl,_,rfl,_,rfl,_,_,rfl,rfl,_,rfl,_,rfl,a,p,c,ns,i,deep-1,near,rfl,g,(by lia),(by lia),(by lia),(by lia),(by lia),(by lia),λr F o i1 b=>?_⟩;have v:=b.hi;have B:=b.lo;have u:=b.dp;have x:=b.kn;refine⟨_,rfl,rfl,_,rfl,ba (λ_=>?_) (λ_=>?_)⟩;·refine⟨_,rfl,_,rfl,_,rfl,_,_,rfl,rfl,_,rfl,_,rfl,a,p,c,ns,i1,deep-2,near,rfl,b.g,(by lia),(by lia),(by lia),(by lia),(by lia),(by lia),λdB vB Z i2 e=>?_⟩;have hB:=e.hi;have lB:=e.lo;have dpB:=e.dp;have knB:=e.kn;refine⟨_,rfl,(c7 rfl),λq1 e1=>?_⟩;exact q _ _ _ _ (made (b.sx.trans e.sx) e.g e1 (rs gY (rs e.r (rs (b.later e.sx) r0))) (Qx e.wf b.wf) (by apply KM.d0;with_reducible repeat' first|apply KM.n9|apply KM.nY|apply KM.q0|apply KM.q4|apply KM.q3|apply KM.q2|apply KM.q1|lia) (by simp only[aG,aO];lia) (by lia) (by lia))
 refine⟨_,rfl,rfl,_,rfl,ba (λ_=>?_) (λ_=>?_)⟩
 ·refine⟨(c7 rfl),λq0 e0=>?_⟩;have C:=ao e0 (.lst [V.str "first", .str "second"]);refine⟨_,rfl,_,rfl,a,p,ns,i1,2,rfl,(b.g.mono C).T,(by lia),(by decide),λO H9 w0 w1 G h9=>?_⟩;have g9:=(b.g.mono C).next G h9 (by lia);obtain⟨y,hy,R⟩:∃y:Str,lX [V.str "first", .str "second"] O=some (.str y)/\(y="first"\/y="second"):=by
   have :O=0\/O=1:=by lia
   rcases this with rfl|rfl;·exact⟨_,rfl, .inl rfl⟩
   ·exact⟨_,rfl, .inr rfl⟩
  have zq:q0≠p:=λz=>by subst z;rw[b.g.T.dq]at e0;cases e0
  have hq0:=G _ _ zq (show(upd _ q0 (.lst [V.str "first", .str "second"])) q0=some _ from aj);have hyl:y.length<=1000:=by rcases R with rfl|rfl<;>decide
  have hwy:∀{d:KM.D},bu ay false d=true->bu ay false (.tup [.str y,d])=true:=λh=>by
   rcases R with rfl|rfl;·exact ER h
   ·exact oR h
  refine⟨q0,_,_,_,rfl,rfl,bE.of hq0,hy,_,rfl,?_⟩;refine⟨(c7 rfl),λq1 e1=>?_⟩;exact q _ _ _ _ (made (b.sx.trans (C.x.trans G)) g9 e1 (rs (gY hyl) (rs (b.later (C.x.trans G)) r0)) (hwy b.wf) (by apply KM.d0;with_reducible repeat' first|apply KM.n9|apply KM.nY|apply KM.q0|apply KM.q4|apply KM.q3|apply KM.q2|apply KM.q1|lia) (by simp only[aG,aO];lia) (by lia) (by lia))
 refine⟨_,rfl,_,rfl,_,rfl,_,_,rfl,rfl,_,rfl,_,rfl,a,p,c,ns,i1,deep-1,near,rfl,b.g,(by lia),(by lia),(by lia),(by lia),(by lia),(by lia),λdB vB Z i2 e=>?_⟩;have hB:=e.hi;have lB:=e.lo;have dpB:=e.dp;have knB:=e.kn;refine⟨_,rfl,rfl,_,rfl,ba (λ_=>?_) (λ_=>?_)⟩;·refine⟨_,rfl,_,rfl,(c7 rfl),λq1 e1=>?_⟩;exact q _ _ _ _ (made (b.sx.trans e.sx) e.g e1 (rs gY (rs (b.later e.sx) (rs e.r r0))) (oI b.wf e.wf) (by apply KM.d0;with_reducible repeat' first|apply KM.n9|apply KM.nY|apply KM.q0|apply KM.q4|apply KM.q3|apply KM.q2|apply KM.q1|lia) (by simp only[aG,aO];lia) (by lia) (by lia))
 refine⟨_,rfl,rfl,_,rfl,ba (λ_=>?_) (λ_=>?_)⟩;·refine⟨_,rfl,_,rfl,_,rfl,_,_,rfl,rfl,_,rfl,_,_,rfl,rfl,_,rfl,a,p,c,ns,i2,deep-2,near+1,rfl,e.g,(by lia),(by lia),(by lia),(by lia),(by lia),(by lia),λdC vC H3 S j=>?_⟩;have hC:=j.hi;have lC:=j.lo;have dpC:=j.dp;have knC:=j.kn;refine⟨_,rfl,_,rfl,(c7 rfl),λq1 e1=>?_⟩;exact q _ _ _ _ (made (b.sx.trans (e.sx.trans j.sx)) j.g e1 (rs gY (rs j.r (rs (b.later (e.sx.trans j.sx)) (rs (e.later j.sx) r0)))) (EL j.wf b.wf e.wf) (by apply KM.d0;with_reducible repeat' first|apply KM.n9|apply KM.nY|apply KM.q0|apply KM.q4|apply KM.q3|apply KM.q2|apply KM.q1|lia) (by simp only[aG,aO];lia) (by lia) (by lia))
 refine⟨_,rfl,_,rfl,_,rfl,_,_,rfl,rfl,_,rfl,_,rfl,a,p,c,ns,i2,deep-1,near,rfl,e.g,(by lia),(by lia),(by lia),(by lia),(by lia),(by lia),λdC vC H3 S j=>?_⟩;have hC:=j.hi;have lC:=j.lo;have dpC:=j.dp;have knC:=j.kn;refine⟨_,rfl,_,rfl,_,rfl,_,_,rfl,rfl,_,rfl,_,_,rfl,rfl,_,rfl,a,p,c,ns,S,deep-2,near+1,rfl,j.g,(by lia),(by lia),(by lia),(by lia),(by lia),(by lia),λdE vE H4 i4 l=>?_⟩;have hE:=l.hi;have lE:=l.lo;have dpE:=l.dp;have knE:=l.kn;refine⟨_,rfl,_,rfl,_,rfl,(c7 rfl),λq1 e1=>?_⟩;exact q _ _ _ _ (made (b.sx.trans (e.sx.trans (j.sx.trans l.sx))) l.g e1 (rs gY (rs l.r (rs (b.later (e.sx.trans (j.sx.trans l.sx))) (rs (e.later (j.sx.trans l.sx)) (rs (j.later l.sx) r0))))) (AZ l.wf b.wf e.wf j.wf) (by apply KM.d0;with_reducible repeat' first|apply KM.n9|apply KM.nY|apply KM.q0|apply KM.q4|apply KM.q3|apply KM.q2|apply KM.q1|lia) (by simp only[aG,aO];lia) (by lia) (by lia))
theorem qo:aT LC eQ (ar gB):=⟨rfl,rfl,rfl,by decide+kernel,rfl,by decide+kernel,by decide+kernel⟩
theorem DJ{n:Nat}(D:Df K mg "_law_term" gB eQ)(M:Mg mg t)(r:bx P w K mg bF "_law_draw" (1) Bi (d_ K))(u:bx P w K mg bF "_law_leaf" (131) ["_law_script","_law_tape","_law_near","_law_pool_here"] (Gk K))(x:bx P w K mg bF "_law_parted" (3*n+134) LC (Hu K n (2*n+4) (2+12*p5 n) (2+5*cst n)))(y:bx P w K mg bF "_law_still" (3*n+134) LC (Hu K n (2*n+4) (1+12*p5 n) (1+4*cst n))):bx P w K mg bF "_law_term" (3*n+135) eQ (eF K false (n+1)):=by
 refine D.ok qo (λvs H Q E h=>?_) (λbase f cZ A outer s H vs Q E k h=>?_);·obtain⟨a,p,c,ns,i,deep,near,rfl,_⟩:=h;rfl
 obtain⟨a,p,c,ns,i,deep,near,rfl,g,hi,d0,J,hn,l,L,q⟩:=h;have i0:=g.T.i0;have e:=xp n;have G:=jh n;have C:=BB n;have N:=nR n;rw[e]at hi q;rw[C]at q;refine⟨_,(ah (aH (i:=5) qo.nd rfl (cq rfl) (aI r k.m rfl aM (ae (pv 0) (ae (pv 1) (ae ai ag))))) (ah (bf (L2.PW.pt (lF (aA kH (pv 2) ai (aR _)) (i9 (aA kH (pv 5) ai (aR _))))) (ak (aw (aI u k.m rfl aM (ae (pv 0) (ae (pv 1) (ae (pv 3) (ae (pv 4) ag))))))) aK) (ah (bf (aA kH (pv 5) ai (aR _)) (ak (aw (aI x k.m rfl aM (ae (pv 0) (ae (pv 1) (ae (pv 2) (ae (pv 3) (ae (pv 4) (ae (aJ bH (pv 5) ai) ag))))))))) aK) (ak (aw (aI y k.m rfl aM (ae (pv 0) (ae (pv 1) (ae (pv 2) (ae (pv 3) (ae (pv 4) (ae (aJ bH (pv 5) ai) ag)))))))))))),?_⟩;try dsimp only[gV,I]
 refine Et ?_;intro _ _ _ _;refine⟨_,rfl,_,rfl,a,p,ns,i,17,rfl,g.T,(by lia),(by decide),λm F w0 w1 b h1=>?_⟩;have j:=g.next b h1 (by lia);refine⟨_,rfl,_,_,rfl,rfl,_,rfl,?_⟩;refine ba (λcd=>?_) (λcd=>?_);·exact lZ ⟨_,rfl,_,rfl,_,rfl,_,rfl,a,p,c,ns,i+1,near,rfl,j,(by lia),l,(by lia),λd v H' i' o=>q _ _ _ _ ((o.after (co1:=1) b (by lia) (by lia)).weak (by lia) (by lia) (by lia))⟩
 refine⟨_,rfl,_,_,rfl,rfl,_,rfl,?_⟩;refine ba (λz=>?_) (λz=>?_);·exact⟨_,rfl,_,rfl,_,rfl,_,rfl,a,p,c,ns,i+1,near,rfl,j,(by lia),l,(by lia),λd v H' i' o=>q _ _ _ _ ((o.after (co1:=1) b (by lia) (by lia)).weak (by lia) (by lia) (by lia))⟩
 have cd:¬deep<1:=of_decide_eq_false (Bool.eq_false_iff.mpr cd);refine⟨_,rfl,_,_,rfl,rfl,_,rfl,?_⟩;refine ba (λB=>?_) (λB=>?_);·exact⟨_,rfl,_,rfl,_,rfl,_,rfl,_,rfl,_,rfl,_,_,rfl,rfl,a,p,c,ns,i+1,deep,near,m-3,rfl,j,(by lia),(by lia),(by lia),(by lia),l,(by lia),λd v H' i' o=>q _ _ _ _ ((o.after (co1:=1) b (by lia) (by lia)).weak (by lia) (by lia) (by lia))⟩
 ·exact⟨_,rfl,_,rfl,_,rfl,_,rfl,_,rfl,_,rfl,_,_,rfl,rfl,a,p,c,ns,i+1,deep,near,m-7,rfl,j,(by lia),(by lia),(by lia),(by lia),l,(by lia),λd v H' i' o=>q _ _ _ _ ((o.after (co1:=1) b (by lia) (by lia)).weak (by lia) (by lia) (by lia))⟩
theorem VY(e:Df K mg "_law_kind" gX eQ)(f:Df K mg "_law_term" gB eQ)(g:Df K mg "_law_fun" iS eQ)(k:Df K mg "_law_pair" gL eQ)(h:Df K mg "_law_like" gR eQ)(j:Df K mg "_law_number" eZ eQ)(Da:Df K mg "_law_parted" fb LC)(l:Df K mg "_law_still" fQ LC)(M:Mg mg t)(b:bx P w K mg bF "_law_draw" (1) Bi (d_ K))(m:bx P w K mg bF "_law_leaf" (131) ["_law_script","_law_tape","_law_near","_law_pool_here"] (Gk K)):∀n:Nat,(bx P w K mg bF "_law_kind" (3*n+132) eQ (eF K true n))/\(bx P w K mg bF "_law_term" (3*n+132) eQ (eF K false n))|0=>⟨bx.never e λvs H Q E⟨a,p,c,ns,i,deep,near,_,_,_,h1,h2,_⟩=>by lia,bx.never f λvs H Q E⟨a,p,c,ns,i,deep,near,_,_,_,h1,h2,_⟩=>by lia⟩|n+1=>by obtain⟨d,ht⟩:=VY e f g k h j Da l M b m n;have f1:=MT g M d ht;have f2:=Gg k M d ht;have o:=GZ h M d ht;have q:=AJ j M b ht;have r:=Cy Da M b d ht f1 f2 o q;have s:=Ej l M b d ht f1 f2 o;exact⟨(E5 e M b d ht).mono (by lia),(DJ f M b m r s).mono (by lia)⟩
end K24
end
section
namespace K24
open PySem L2 L3 KM
seal L2.PE L2.PS L2.iO L2.PT L2.PW L2.PA L2.PG L2.Bu L2.PI L2.PC L2.PO L2.AY L2.PK L3.A8
variable{P:Program}{w:World}{K:PySem.W.Frag}{mg:Str->Option Value}{base:Heap}{t:xV}
theorem sizeLine_eq:sizeLine=16777216:=by decide
def okH(d:D):Prop:=d= .a_\/d= .tup []\/∃x,d= .str x
mutual noncomputable def NH:D->Prop| .tup []=>True| .tup (h::ps)=>okH h/\okL ps/\ps.length<=20|_=>True noncomputable def okL:List D->Prop|[]=>True|p::ps=>NH p/\okL ps end
mutual theorem N1:∀{k:Bool}{d:D},bu ay k d=true->NH d
 |k, .tup (.str x::ps),h=>by
  obtain⟨s,e1,e2,e3,e4,e5,_⟩:=bO h;refine⟨.inr (.inr ⟨x,rfl⟩),NV e3,?_⟩;have :s.cps.toList.length=s.cps.size:=by simp
  lia
 |k, .tup [],h=>by simp[bu]at h
 |k, .tup (.a_::_),h=>by simp[bu]at h
 |k, .tup (.bl _::_),h=>by simp[bu]at h
 |k, .tup (.int _::_),h=>by simp[bu]at h
 |k, .tup (.tup _::_),h=>by simp[bu]at h
 |k, .a_,h=>by simp[bu]at h
 |k, .bl _,h=>by simp[bu]at h
 |k, .int _,h=>by simp[bu]at h
 |k, .str _,h=>by simp[bu]at h theorem NV:∀{cs:List Nat}{ps:List D},eh ay cs ps=true->okL ps
 |[],[],_=>trivial
 |[],_::_,h=>by simp[eh]at h
 |_::_,[],h=>by simp[eh]at h
 |c::cs,p::ps,h=>by
  rw[aP,cW]at h;refine⟨?_,NV h.2⟩;have h:=h.1;unfold dv at h;by_cases c1:c=107;·rw[if_pos c1]at h;exact N1 h
  ·rw[if_neg c1]at h;by_cases c2:c=116;·rw[if_pos c2]at h;exact N1 h
   ·rw[if_neg c2]at h;cases p<;>first|trivial|(simp[iD,ay]at h;done)end
theorem RQ:∀{ds:List D},NH (.tup ds)->ds.length<=21|[],_=>by simp|_::ps,h=>by have :=h.2.2;simp;lia
theorem JM:∀{ps:List D}{p:D},okL ps->p∈ps->NH p
 |[],_,_,e=>by simp at e
 |q::ps,p,h,e=>by
  rcases List.mem_cons.mp e with rfl|e;·exact h.1
  ·exact JM h.2 e
theorem aaG:∀{d:D},NH d->∀x∈tk d,NH x
 | .tup [],_,x,a=>by simp[tk]at a
 | .tup (h::ps),ok,x,a=>by
  have hm:x∈h::ps:=(List.mem_filter.mp a).1;rcases List.mem_cons.mp hm with rfl|hm;·rcases ok.1 with rfl|rfl|⟨y,rfl⟩<;>simp[NH]
  ·exact JM ok.2.1 hm
 | .a_,_,x,a=>by simp[tk]at a
 | .bl _,_,x,a=>by simp[tk]at a
 | .int _,_,x,a=>by simp[tk]at a
 | .str _,_,x,a=>by simp[tk]at a
theorem O8:∀(n:Nat)(l:List D),(∀x∈l,NH x)->∀x∈lv n l,NH x|0,_,h=>h|n+1,l,h=>O8 n _ λx a=>by obtain⟨d,hd,a⟩:=List.mem_flatMap.mp a;exact aaG (h d hd) x a
noncomputable def dz(d:D):Bool:=!(decide (aG d<=600)&&decide (depth d<=40))
def QK:Sp:=λvs H Q _=>∃ds v,vs=[v]/\Rep H (.tup ds) v/\NH (.tup ds)/\0<=aG (.tup ds)/\∀H',aQ H H'->Q (.bl (dz (.tup ds))) H'
noncomputable def ka(ds:List D)(vs:List V)(j:Nat):Option V:=if isTup ((ds[j]?).getD .a_)then vs[j]? else none
theorem zY{H:Hp}:∀{ds:List D}{vs:List V},bg H ds vs->bg H (ds.filter isTup) ((List.range vs.length).filterMap (ka ds vs))
 |[],_,r=>by have r:_=[]:=r;subst r;exact rfl
 |d::ds,_,⟨v,a,e,q,t⟩=>by
  subst e;have b:=zY t;rw[bS,List.range_succ_eq_map,List.filterMap_cons,List.filterMap_map];have e:(ka (d::ds) (v::a)∘Nat.succ)=ka ds a:=by funext j;simp[ka]
  rw[e];by_cases hd:isTup d=true
  ·rw[List.filter_cons_of_pos hd];have e0:ka (d::ds) (v::a) 0=some v:=by simp[ka,hd]
   simp only[e0];exact⟨v,_,rfl,q,b⟩
  ·rw[List.filter_cons_of_neg hd];have e0:ka (d::ds) (v::a) 0=none:=by simp[ka,hd]
   simp only[e0];exact b
theorem mI(ds:List D):∀x∈[D.tup ds],isTup x=true:=λx a=>by rw[List.mem_singleton.mp a];rfl
theorem oN(ds:List D):aO [D.tup ds]=aG (.tup ds):=by simp[aO]
theorem Mr(ds:List D):aN [D.tup ds]=depth (.tup ds):=by simp[aN]
theorem XB(i:Nat)(ds:List D):(lv i [D.tup ds]).length<=aG (.tup ds):=by have h:=ym (i+1) [D.tup ds] (mI ds);rw[oN]at h;simp only[gQ]at h;lia
theorem zB(l:List D)(j:Nat):((l.take j).flatMap tk).length<=(l.flatMap tk).length:=by
 have e:l.flatMap tk=(l.take j).flatMap tk++(l.drop j).flatMap tk:=by rw[<-List.flatMap_append,List.take_append_drop]
 rw[e,dZ];lia
theorem Em{L:Nat}:∀(l:List D),(∀d∈l,(tk d).length<=L)->(l.flatMap tk).length<=l.length*L|[],_=>by simp|d::l,h=>by rw[List.flatMap_cons,dZ,bS,Nat.add_mul,Nat.one_mul];have :=Em l λx a=>h x (eA _ a);have :=h d eD;lia
theorem YW{d:D}(h:NH d):(tk d).length<=21:=by cases d with|tup es=>exact dJ (List.length_filter_le _ _) (RQ h)|_=>simp[tk]
theorem Oh{ds:List D}{i:Nat}(h:600<gQ i [D.tup ds]):dz (.tup ds)=true:=by have :=ym i [D.tup ds] (mI ds);rw[oN]at this;unfold dz;rw[decide_eq_false (by lia)];rfl
theorem Pg{ds:List D}(h:gQ 40 [D.tup ds]<=600):dz (.tup ds)=decide (0<(lv 40 [D.tup ds]).length):=by
 have e:=MO [D.tup ds] (mI ds);rw[oN,Mr]at e;unfold dz;by_cases c:lv 40 [D.tup ds]=[];·obtain⟨a,b⟩:=e.mp ⟨h,c⟩;rw[decide_eq_true a,decide_eq_true b,c];rfl
 ·have :¬(aG (.tup ds)<=600/\depth (.tup ds)<=40):=λz=>c (e.mpr z).2;have hl:0<(lv 40 [D.tup ds]).length:=List.length_pos_iff.mpr c;rw[decide_eq_true hl];by_cases a:aG (.tup ds)<=600;·rw[decide_eq_false λb=>this ⟨a,b⟩,Bool.and_false];rfl
  ·rw[decide_eq_false a];rfl
theorem dR:aT ["value","level","knots","depth","below","knot"] ["value"] (ar iQ):=⟨rfl,rfl,rfl,by decide+kernel,rfl,by decide+kernel,by decide+kernel⟩
theorem LY(D:Df K mg "is_vast" iQ ["value"])(M:Mg mg t):bx P w K mg bF "is_vast" (1) ["value"] QK:=by
 refine D.ok dR (λvs H Q E h=>?_) (λbase f cZ A outer s H vs Q E hr h=>?_);·obtain⟨d,v,rfl,_⟩:=h;rfl
 obtain⟨ds,v,rfl,r,ok,hk,q⟩:=h;refine⟨_,(ah (aH (i:=1) dR.nd rfl (cq rfl) (bR (ae (pv 0) ag))) (ah (aH (i:=2) dR.nd rfl (cq rfl) ai) (ah (fk PassesOwn.never rfl (eR rfl M.ia (ae (Bp M.g_MOST_DEEP rfl) ag)) (bJ (i:=3) dR.nd rfl (cq rfl)) (ah (Xe (i:=2) dR.nd rfl (cq rfl) (bz bC rfl M.gE eK (ae (pv 1) ag)) XZ) (ah (bf (aA lJ (pv 2) (Bp M.g_MOST_KNOTS rfl) (aR _)) (ak (aw Az)) aK) (ah (aH (i:=4) dR.nd rfl (cq rfl) (bR ag)) (ah (fk PassesOwn.never rfl (gm (pv 1)) (bJ (i:=5) dR.nd rfl (cq rfl)) (ak (uD (pM PySem.F.plainAttrs_list PySem.F.slot_list_extend PySem.F.type_list_extend Mq (pv 4) (ae (nj (N':=["part"]) (own:=1) (fr:=[]) rfl (j8 (N:=["value","level","knots","depth","below","knot"]) (sc:=ar iQ) rfl rfl rfl (by decide+kernel)) (AL (pv 5)) (gU (by decide)) (λ_ _ _=>(bJ (i:=0) (show List.Nodup (["part"]:List Str)by decide+kernel) rfl (Or.inl rfl))) (λ_ _ _=>(A1 (l0 (bz (CK (K:=K)) rfl M.cF cx (ae (pv 0) (ae (IC M.Cq xI rfl) ag)))))) (λ_ _ _=>(pv 0))) ag))))) (ak (aH (i:=1) dR.nd rfl (cq rfl) (pv 4)))))))) (ak (aw (nF lJ (bz bC rfl M.gE eK (ae (pv 1) ag)) ai (aR _))))))),?_⟩;try dsimp only[gV,cP]
 refine Et ?_;intro _ _ _ _;refine⟨_,rfl,(c7 rfl),λq1 pQ=>?_⟩;have e1:(upd H q1 (.lst [v])) q1=some (.lst [v]):=aj;have s1:aQ H (upd H q1 (.lst [v])):=ao pQ _;refine⟨40,rfl,by decide,by decide,Lv (n:=40) (λi B H'=>∃(q:Addr)(us:List V)(k3 I g:Option V),B=[some v,some (.ref q),some (.int (gQ i [KM.D.tup ds])),k3,I,g]/\H' q=some (.lst us)/\bg H' (lv i [KM.D.tup ds]) us/\gQ i [KM.D.tup ds]<=600/\aQ H H') ?_ ?_ ?_⟩;·exact⟨q1,[v],none,none,none,rfl,e1,bg.one (r.mono s1),by simp[gQ],s1⟩
 ·rintro i B l hi⟨q2,us,k3,I,g,rfl,F,J,hup,s2⟩;have Yl:=J.length;have lvl:=XB i ds;refine⟨_,rfl,_,rfl,q2,us,rfl, .inl (bE.of F),_,_,rfl,rfl,?_⟩;have eu:((gQ i [KM.D.tup ds]:Nat):Int)+((us.length:Nat):Int)=((gQ (i+1) [KM.D.tup ds]:Nat):Int):=by simp only[gQ];lia
  show bc _ _ _ [some v,some (.ref q2),some (.int (((gQ i [KM.D.tup ds]:Nat):Int)+((us.length:Nat):Int))),some (.int (0+(i:Int))),I,g] l;rw[eu];refine⟨_,rfl,_,_,rfl,rfl,_,rfl,?_⟩;refine ba (λc=>?_) (λc=>?_);·have c:(600:Int)<((gQ (i+1) [KM.D.tup ds]:Nat):Int):=of_decide_eq_true c;have e:=Oh (ds:=ds) (i:=i+1) (by lia);rw[e]at q;exact q l s2
  have c:¬(600:Int)<((gQ (i+1) [KM.D.tup ds]:Nat):Int):=of_decide_eq_false (Bool.eq_false_iff.mpr c);refine⟨by show 0<=sizeLine;decide,λq4 Z=>?_⟩;have e4:(upd l q4 (.lst [])) q4=some (.lst []):=aj;have s4:aQ l (upd l q4 (.lst [])):=ao Z _;refine⟨_,rfl,q2,rfl,⟨us,bE.of (s4 _ _ F)⟩,Rh (xs:=us) (λj B H'=>∃(bs:List V)(g:Option V),B=[some v,some (.ref q2),some (.int (gQ (i+1) [KM.D.tup ds])),some (.int (0+(i:Int))),some (.ref q4),g]/\H' q4=some (.lst bs)/\bg H' (((lv i [KM.D.tup ds]).take j).flatMap tk) bs/\aQ l H') ?_ ?_ ?_ ?_⟩;·exact⟨[],g,rfl,e4,by simp[bg],s4⟩
  ·rintro j B H' _⟨bs,g,rfl,h4,C,s'⟩;exact bE.of (s' _ _ F)
  ·rintro j u B H5 hu⟨bs,g,rfl,h4,C,L⟩;obtain⟨d,hd,rd⟩:=J.get' hu;have htd:=Iu i [KM.D.tup ds] (mI ds) d (qO hd);obtain⟨es,rfl⟩:∃es,d= .tup es:=by cases d<;>first|exact⟨_,rfl⟩|cases htd
   obtain⟨a,ws,rfl,ha,S⟩:=rd.mono L;have hsz:ws.length<=sizeLine:=by have h1:=S.length;have h2:=RQ (O8 i [KM.D.tup ds] (λx m=>by rw[List.mem_singleton.mp m];exact ok) _ (qO hd));rw[sizeLine_eq];lia
   refine⟨_,rfl, .inl ⟨rfl,_,bE.of h4⟩,_,rfl,a,rfl,⟨ws,bU.of ha⟩,λp Y=>RF ws.length (ka es ws) Y hsz (λk O hk6 y=>?_) λO y h6=>?_⟩
   ·obtain⟨wk,G⟩:∃x,ws[k]?=some x:=⟨_,dD hk6⟩;have Nh:bU K O a ws:=bU.of (y _ _ ha);refine⟨⟨ws,wk,Nh,G⟩,?_⟩;rintro x' T⟨rfl,hy⟩R R0 hR Yu;have m:=hy ws Nh;rw[G]at m;cases m;obtain⟨dk,W,rk⟩:=S.get' G;refine⟨_,rfl,_,_,_,_,rfl,(Rep.mono y rk).ty,UD _ dk,_,rfl,?_⟩;refine ba (λc=>?_) (λc=>?_);·exact⟨_,rfl,hR wk T (by simp[ka,W,c,G]) (aQ.refl _)⟩
    ·exact Yu T (by simp[ka,W,c]) (aQ.refl _)
   ·have lb:=C.length;have U:=y _ _ h4;have n4:q4≠p:=aZ h4 Y;have hl:(lv i [KM.D.tup ds]).take (j+1)=(lv i [KM.D.tup ds]).take j++[KM.D.tup es]:=by rw[List.take_add_one,hd];rfl
    have X:((lv i [KM.D.tup ds]).take (j+1)).flatMap tk=((lv i [KM.D.tup ds]).take j).flatMap tk++es.filter isTup:=by rw[hl,List.flatMap_append];simp[tk]
    have rpk:=zY (S.mono y);have lpk:=rpk.length;have lfl:=zB (lv i [KM.D.tup ds]) (j+1);rw[<-tL,X,dZ]at lfl;have lv1:(lv (i+1) [KM.D.tup ds]).length<=600*21:=by rw[tL];refine dJ (Em _ λx m=>YW (O8 i [KM.D.tup ds] (λx m=>by rw[List.mem_singleton.mp m];exact ok) x m)) (Nat.mul_le_mul_right _ ?_);simp only[gQ]at c;lia
    have np:∀vs,O q4≠some (.tup vs):=λvs z=>by rw[U]at z;cases z
    refine⟨⟨ws,bU.of (y _ _ ha),bN _⟩,q4,p,_,_,rfl,rfl,U,h6,?_,?_⟩;·rw[lb,lpk,sizeLine_eq];lia
    ·refine⟨_,_,rfl,aj,?_,λb o hb=>?_⟩;·rw[X];exact bg.fJ (bD.upd _) np ((C.mono y).append rpk)
     ·rw[aY (aZ hb Z)];exact y _ _ (L _ _ hb)
  ·rintro B H5⟨bs,g,rfl,h4,C,L⟩;rw[List.take_of_length_le (by lia),<-tL]at C;refine⟨_,rfl,q4,bs,_,_,_,rfl,h4,C,by lia,s2.trans L⟩
 ·rintro B l⟨q2,us,k3,I,g,rfl,F,J,hup,s2⟩;refine⟨_,rfl,q2,us,rfl, .inl (bE.of F),_,_,rfl,rfl,?_⟩;have e:decide ((0:Int)<((us.length:Nat):Int))=dz (.tup ds):=by rw[Pg hup,J.length];simp
  show Q (.bl (decide ((0:Int)<((us.length:Nat):Int)))) l;rw[e];exact q l s2
end K24
end
section
namespace K24
open PySem L2 L3 KM PyProof.Rows
seal L2.PE L2.PS L2.iO L2.PT L2.PW L2.PA L2.PG L2.Bu L2.PI L2.PC L2.PO L2.AY L2.PK L3.A8
variable{P:Program}{w:World}{K:PySem.W.Frag}{mg:Str->Option Value}{base:Heap}{t:xV}
theorem Me{k:Bool}{x:Str}{ps:List D}(h:bu ay k (.tup (.str x::ps))=true)(g:dX x=true):∀(i:Nat)(p:D),ps[i]?=some p->isTup p=false/\(iD p=true\/ay p=true):=by
 obtain⟨s,h1,h2,h3,h4,h5,h6,l,_⟩:=bO h;have hc:∀(cs:List Nat)(a:List D)(i:Nat),eh ay cs a=true->(∀c∈cs,ktB c=!dX x)->∀p,a[i]?=some p->isTup p=false/\(iD p=true\/ay p=true):=λcs=>by
  induction cs with
   |nil=>intro a i hq _ p e;cases a with|nil=>simp at e|cons _ _=>simp[eh]at hq
   |cons c cs j=>
    intro a i hq f p e;cases a with
     |nil=>simp[eh]at hq
     |cons q a=>
      rw[aP,cW]at hq;cases i with
       |zero=>
        simp at e;subst e;have d:=f c eD;rw[g]at d;have b:=hq.1;unfold dv at b;rw[if_neg (λz=>by rw[z,kt1]at d;cases d),if_neg (λz=>by rw[z,kt2]at d;cases d)]at b;split at b;·exact⟨by cases q<;>simp[iD]at b<;>rfl, .inl b⟩
        ·exact⟨by cases q<;>simp[ay]at b<;>rfl, .inr b⟩
       |succ i=>exact j a i hq.2 (λc hc=>f c (eA _ hc)) p (by simpa using e)
 exactλi p e=>hc _ ps i h3 h6 p e
theorem AB:∀(ps:List D),(∀(i:Nat)(p:D),ps[i]?=some p->isTup p=false)->aO ps=0/\aN ps=0
 |[],_=>⟨rfl,rfl⟩
 |p::ps,h=>by
  obtain⟨h1,h2⟩:=AB ps λi q e=>h (i+1) q (by simpa using e);have a:=h 0 p rfl;have e1:aG p=0:=by cases p<;>first|rfl|simp[isTup]at a
  have e2:depth p=0:=by cases p<;>first|rfl|simp[isTup]at a
  simp[aO,aN,h1,h2,e1,e2]
theorem l7:∀ps:List D,aO ps=(ps.map aG).sum|[]=>rfl|p::ps=>by simp[aO,l7 ps]
theorem lL:∀ps:List D,aN ps=jE (ps.map depth)|[]=>rfl|p::ps=>by rw[aN,lL ps];rfl
theorem jg{k:Bool}{x:Str}{ps:List D}(h:bu ay k (.tup (.str x::ps))=true):aG (.tup (.str x::ps))=1+((aB x ps).map aG).sum/\depth (.tup (.str x::ps))=1+jE ((aB x ps).map depth):=by
 rw[<-l7,<-lL];have e1:aG (.tup (.str x::ps))=1+aO ps:=by simp[aG,aO]
 have e2:depth (.tup (.str x::ps))=1+aN ps:=by simp[depth,aN]
 rw[e1,e2];unfold aB;by_cases a:dX x=true;·obtain⟨b,c⟩:=AB ps λi p e=>(Me h a i p e).1;rw[if_pos a,b,c];exact⟨rfl,rfl⟩
 ·rw[if_neg a];exact⟨rfl,rfl⟩
structure Rz(d:D)(n:Nat):Prop where
 wf:Wf d
 dp:depth d<n
 kn:0<=aG d
theorem Rz.kid{n:Nat}{x:Str}{ps:List D}{i:Nat}{p:D}(h:Rz (.tup (.str x::ps)) (n+1))(e:(aB x ps)[i]?=some p):Rz p n:=by obtain⟨k,wf⟩:=h.wf;obtain⟨w1,w2⟩:=jJ wf e;have hd:=h.dp;exact⟨w1,by lia,fW _⟩
structure Rs(d:D)(n:Nat):Prop where
 wf:Wf d
 dp:depth d<n
 kn:aG d<=8000000
mutual noncomputable def eM:D->Bool| .int i=>decide (99<i)| .tup ds=>gO ds|_=>false noncomputable def gO:List D->Bool|[]=>false|d::ds=>eM d||gO ds end
theorem S8{ds:List D}:∀{ns:List Int},ns.length=ds.length->(∀(i:Nat)(z:Int),ns[i]?=some z->decide (99<z)=eM ((ds[i]?).getD .a_))->gO ds=ns.any λz=>decide (99<z):=by
 induction ds with
  |nil=>intro ns h _;cases ns with|nil=>rfl|cons _ _=>simp at h
  |cons d ds b=>intro ns h a;cases ns with|nil=>simp at h|cons z ns=>rw[gO,List.any_cons,b (by simpa using h) (λi z e=>by simpa using a (i+1) z (by simpa using e)),a 0 z rfl];rfl
theorem any_max(b:Int):∀(ns:List Int)(d:Int),d<=b->decide (b<maxD ns d)=ns.any λz=>decide (b<z)|[],d,h=>by show decide (b<d)=false;exact decide_eq_false (by lia)|a::r,d,_=>by show decide (b<r.foldl Zn a)=_;rw[List.any_cons];induction r generalizing a with|nil=>exact(Bool.or_false _).symm|cons c r e=>rw[List.foldl_cons,e,List.any_cons,<-Bool.or_assoc];congr 1;unfold Zn;by_cases h1:b<a<;>by_cases h2:b<c<;>simp[h1,h2]<;>split<;>lia
theorem E3{x:Str}{ps:List D}{k:Bool}(wf:bu ay k (.tup (.str x::ps))=true)(a:dX x=true)(d:x≠"var"):∀(i:Nat)(p:D),ps[i]?=some p->eM p=false:=λi p e=>by
 have a:x="name":=by unfold dX at a;simp[d]at a;exact a
 subst a;obtain⟨f,e1,_,e3,_,b,_⟩:=bO wf;rw[gN]at e1;cases e1;rw[KN]at e3 b;cases ps with
  |nil=>simp at e
  |cons c rest=>
   cases rest with
    |cons _ _=>simp at b
    |nil=>
     rw[aP,cW]at e3;have hn:ay c=true:=by simpa[dv]using e3.1
     cases i with|succ i=>simp at e|zero=>simp at e;subst e;cases c<;>first|rfl|simp[ay]at hn
theorem SJ{x:Str}{ps:List D}{k:Bool}{ns:List Int}{d:Int}(wf:bu ay k (.tup (.str x::ps))=true)(e:x≠"var")(hd:d<=99)(hl:ns.length=(aB x ps).length)(c:∀(i:Nat)(z:Int),ns[i]?=some z->decide (99<z)=eM (((aB x ps)[i]?).getD .a_)):decide (99<maxD ns d)=eM (.tup (.str x::ps)):=by
 rw[any_max 99 ns d hd,<-S8 hl c];show _=(false||gO ps);rw[Bool.false_or];unfold aB;split
 ·rename_i f;symm;show gO ps=false;have j:∀a:List D,(∀p∈a,eM p=false)->gO a=false:=λa=>by induction a with|nil=>intro _;rfl|cons q a g=>intro h;rw[gO,h q eD,g λp b=>h p (eA _ b)];rfl
  refine j ps λp b=>?_;obtain⟨i,hi,rfl⟩:=List.mem_iff_getElem.mp b;exact E3 wf f e i _ (dD hi)
 ·rfl
def Ic(n:Nat):Sp:=λvs H Q _=>∃(d:D)(v:V),vs=[v]/\Rep H d v/\Rz d n/\∀(i:Int)(H':Hp),decide (99<i)=eM d->aQ H H'->Q (.int i) H'
theorem qT:aT ["thing"] ["thing"] (ar du):=⟨rfl,rfl,rfl,by decide+kernel,rfl,by decide+kernel,by decide+kernel⟩
theorem qQ{n:Nat}(D:Df K mg "top_variable" du ["thing"])(M:Mg mg t)(G:bx P w K mg bF "kids_of" (1) ["thing"] fZ)(I:bx P w K mg bF "top_variable" (n+3) ["thing"] (Ic n)):bx P w K mg bF "top_variable" (n+4) ["thing"] (Ic (n+1)):=by
 refine D.ok qT (λvs H Q E h=>?_) (λbase f cZ A outer s H vs Q E u h=>?_);·obtain⟨d,v,rfl,_⟩:=h;rfl
 obtain⟨d,v,rfl,r,rz,q⟩:=h;obtain⟨x,ps,k,rfl,wf,W⟩:=jK rz.wf;have T:=J_ wf;obtain⟨a,F,rfl,ha,v0,F,rfl,⟨rfl,o⟩,rp⟩:=id r;have L:lX (V.str x::F) 0=some (.str x):=aL (j:=0) rfl;refine⟨_,(ah (bf (aA bQ (aS aU (pv 0) ai (λ_ _=>rfl)) aq (aR _)) (ak (aw (aS aU (pv 0) ai (λ_ _=>rfl)))) aK) (ak (aw (Tj M.OI (ae (nj (N':=["kid"]) (own:=1) (fr:=[]) rfl (j8 (N:=["thing"]) (sc:=ar du) rfl rfl rfl (by decide+kernel)) (gm (aI G u.m rfl aM (ae (pv 0) ag))) (gU (by decide)) (λ_ _ _=>(bJ (i:=0) (show List.Nodup (["kid"]:List Str)by decide+kernel) rfl (Or.inl rfl))) (λ_ _ _=>nA) (λ_ _ _=>(aI I u.m rfl aM (ae (pv 0) ag)))) ag) (Sn ai Xa))))),?_⟩;try dsimp only[gV,cP]
 refine qM ?_;intro _ _;refine⟨_,rfl,a,_,_,_,rfl,rfl,bU.of ha,L,rfl,_,rfl,?_⟩;refine ba (λc=>?_) (λc=>?_)
 ·have c:V.str x=V.str "var":=of_decide_eq_true c;cases c;obtain⟨sh,e1,_,e3,_,l,_⟩:=bO wf;rw[eT]at e1;cases e1;rw[yO]at e3 l;obtain⟨b,rfl⟩:∃b,ps=[b]:=by cases ps with|nil=>simp at l|cons b rest=>cases rest with|nil=>exact⟨b,rfl⟩|cons _ _=>simp at l
  rw[aP,cW]at e3;have hn:iD b=true:=by simpa[dv]using e3.1
  obtain⟨i,rfl⟩:∃i,b= .int i:=by cases b<;>first|exact⟨_,rfl⟩|simp[iD]at hn
  obtain⟨u1,mj,rfl,e,_⟩:=rp;cases(show u1=V.int i from e);have hi:decide (99<i)=eM (.tup [.str "var", .int i]):=by simp[eM,gO]
  exact⟨_,rfl,a,_,_, .int i,rfl,rfl,bU.of ha,aL (j:=1) rfl,q i H hi (aQ.refl H)⟩
 refine⟨_,rfl,x,ps,_,rfl,r,W,λZ us H1 _ s1 h1 e=>⟨Z,rfl,⟨us,bE.of h1⟩,λp2 U=>?_⟩⟩;have l1:=e.length;refine Md (aB x ps).length (λi z=>decide (99<z)=eM (((aB x ps)[i]?).getD .a_)) U (dJ T (by decide)) (λi p hi s2=>?_) λns p s2 hl O h2=>⟨⟨us,bE.of (s2 _ _ h1),by lia⟩,?_⟩;·obtain⟨g,m⟩:∃g,(aB x ps)[i]?=some g:=⟨_,dD hi⟩;obtain⟨C,B,rui⟩:=e.get m;refine⟨⟨us,C,bE.of (s2 _ _ h1),B⟩,?_⟩;rintro y H3⟨rfl,X⟩R S;have o:=X us (bE.of (s2 _ _ h1));rw[B]at o;cases o;exact⟨_,rfl,g,C,rfl,rui.mono s2,rz.kid m,λz J Y s4=>S z J s4 (by rw[m];exact Y)⟩
 ·refine⟨p2,ns,_,rfl,rfl,bE.of h2,?_⟩;exact q _ p (SJ wf (λz=>c (by rw[z];exact decide_eq_true rfl)) (by decide) hl O) (s1.trans s2)
theorem j3(D:Df K mg "top_variable" du ["thing"])(M:Mg mg t)(a:bx P w K mg bF "kids_of" (1) ["thing"] fZ):∀n:Nat,bx P w K mg bF "top_variable" (n+3) ["thing"] (Ic n)|0=>bx.never D λvs H Q E⟨d,v,_,_,h,_⟩=>absurd h.dp (Nat.not_lt_zero _)|n+1=>qQ D M a (j3 D M a n)
def oK(C:Addr)(n:Nat):Sp:=λvs H Q E=>∃(d:D)(v:V),vs=[v]/\Rep H d v/\Rz d n/\(∀H',aQ H H'->(dz d||eM d)=false->Q v H')/\(∀H',aQ H H'->(dz d||eM d)=true->E (.ref C) none H')
theorem Gv:aT ["thing"] ["thing"] (ar kR):=⟨rfl,rfl,rfl,by decide+kernel,rfl,by decide+kernel,by decide+kernel⟩
theorem LH{n:Nat}(D:Df K mg "bounded" kR ["thing"])(M:Mg mg t)(j:oV K t.cu)(l:bx P w K mg bF "is_vast" (1) ["value"] QK)(o:bx P w K mg bF "top_variable" (n+3) ["thing"] (Ic n)):bx P w K mg (f9 P w) "bounded" (n+4) ["thing"] (oK t.cu n):=by
 refine D.R_ Gv (λvs H Q E h=>?_) (λbase f cZ A outer s H vs Q E b h=>?_);·obtain⟨d,v,rfl,_⟩:=h;rfl
 obtain⟨d,v,rfl,r,rz,q,g⟩:=h;obtain⟨x,ps,k,rfl,wf,y⟩:=jK rz.wf;refine⟨_,(ah (bf (L2.PW.pt (lF (l0 (aI l b.m rfl aM (ae (pv 0) ag))) (i9 (aA lJ (aI o b.m rfl aM (ae (pv 0) ag)) (Bp M.g_MOST_VARIABLE rfl) (aR _))))) (ak (mB (G:=(λH'=>E (.ref t.cu) none H')) j M.g_Great (ae aq ag) (λpins σ H s e h' I m q=>uE I m q))) aK) (ak (aw (pv 0)))),?_⟩;try dsimp only[gV,u]
 refine qM ?_;intro _ _;refine⟨_,rfl,_,v,rfl,r,N1 wf,rz.kn,λp s1=>⟨_,rfl,?_⟩⟩;refine ba (λc=>lZ ⟨by decide,g p s1 (by rw[c];rfl)⟩) (λc=>?_);refine⟨_,rfl,_,v,rfl,r.mono s1,rz,λi a hi s2=>⟨_,_,rfl,rfl,_,rfl,?_⟩⟩;have c:dz (.tup (.str x::ps))=false:=Bool.eq_false_iff.mpr c;refine ba (λc2=>⟨by decide,g a (s1.trans s2) (by rw[<-hi,c];exact c2)⟩) (λc2=>⟨_,rfl,q a (s1.trans s2) (by rw[<-hi,c];exact Bool.eq_false_iff.mpr c2)⟩)
noncomputable def cE(x:Str)(ps a:List D):D:=if a=[]then .tup (.str x::ps)else .tup (.str x::a)
def iH:Sp:=λvs H Q _=>∃(x:Str)(ps b:List D)(v:V)(a:Addr)(us:List V),vs=[v, .ref a]/\Rep H (.tup (.str x::ps)) v/\H a=some (.lst us)/\bg H b us/\b.length<=10/\∀(u:V)(H':Hp),aQ H H'->Rep H' (cE x ps b) u->Q u H'
theorem Ga:aT ["thing","kids"] ["thing","kids"] (ar kU):=⟨rfl,rfl,rfl,by decide+kernel,rfl,by decide+kernel,by decide+kernel⟩
theorem MQ(D:Df K mg "rebuilt" kU ["thing","kids"])(M:Mg mg t):bx P w K mg bF "rebuilt" (1) ["thing","kids"] iH:=by
 refine D.ok Ga (λvs H Q E h=>?_) (λbase f cZ A outer s H vs Q E C h=>?_);·obtain⟨x,ps,d,v,a,us,rfl,_⟩:=h;rfl
 obtain⟨x,ps,d,v,a,us,rfl,r,ha,e,hl,q⟩:=h;have n:=e.length;obtain⟨b,y,rfl,hb,v0,y,rfl,⟨rfl,m⟩,F⟩:=id r;refine⟨_,(ah (bf (aA bQ (bz bC rfl M.gE eK (ae (pv 1) ag)) ai (aR _)) (ak (aw (pv 0))) aK) (ak (aw (aJ vK (aE (ae (aS aU (pv 0) ai (λ_ _=>rfl)) ag)) (fC lK rfl M.Cq xI (ae (pv 1) ag)))))),?_⟩;try dsimp only[gV,B]
 refine qM ?_;intro _ _;refine⟨_,rfl,a,_,rfl, .inl (bE.of ha),rfl,_,rfl,?_⟩;refine ba (λc=>?_) (λc=>?_)
 ·have c:V.int ((us.length:Nat):Int)=V.int 0:=of_decide_eq_true c;have hq:d=[]:=by injection c with c;exact List.length_eq_zero_iff.mp (by lia)
  refine⟨_,rfl,q _ H (aQ.refl H) ?_⟩;unfold cE;rw[if_pos hq];exact r
 ·have hq:d≠[]:=λz=>c (by subst z;have :us.length=0:=n;rw[this];exact decide_eq_true rfl);refine⟨_,rfl,b,_,_,_,rfl,rfl,bU.of hb,aL (j:=0) rfl,(c7 rfl),λo k=>?_⟩;have s1:=ao k (.tup [V.str x]);refine⟨_,rfl,a,us,rfl, .inl ⟨bE.of (s1 _ _ ha),λp l=>?_⟩⟩;have s2:=ao l (.tup us);refine⟨o,p,_,_,rfl,rfl,s2 _ _ aj,aj,?_,λu i g h3=>?_⟩;·rw[List.length_singleton,sizeLine_eq];lia
  ·refine q _ i (s1.trans (s2.trans g)) ?_;unfold cE;rw[if_neg hq];exact⟨u,_,rfl,h3,_,_,rfl,⟨rfl,m⟩,e.mono (s1.trans (s2.trans g))⟩
noncomputable def yp(d:D):Bool:=N8 d&&!PZ d
def Fd:Sp:=λvs H Q _=>∃d v,vs=[v]/\Rep H d v/\Q (.bl (yp d)) H
theorem AN:aT ["value"] ["value"] (ar hI):=⟨rfl,rfl,rfl,by decide+kernel,rfl,by decide+kernel,by decide+kernel⟩
theorem C4(D:Df K mg "is_number" hI ["value"])(M:Mg mg t):bx P w K mg bF "is_number" (1) ["value"] Fd:=by
 refine D.ok AN (λvs H Q E h=>?_) (λbase f cZ A outer s H vs Q E b h=>?_);·obtain⟨d,v,rfl,_⟩:=h;rfl
 obtain⟨d,v,rfl,r,q⟩:=h;refine⟨_,(ak (aw (Zy (bz jW rfl M.cF cx (ae (pv 0) (ae (IC M.WW Qf rfl) ag))) (NC (X3 (bz jW rfl M.cF cx (ae (pv 0) (ae (IC M.Zu S5 rfl) ag)))))))),?_⟩;try dsimp only[gV,a]
 refine⟨_,rfl,_,_,_,_,rfl,r.ty,UE _ d,_,rfl,?_⟩;refine ba (λc=>?_) (λc=>?_)
 ·refine⟨_,rfl,_,_,_,_,rfl,r.ty,Zp _ d,_,rfl,?_⟩;have e:yp d=!PZ d:=by unfold yp;rw[c];rfl
  rw[e]at q;exact q
 ·have e:yp d=false:=by unfold yp;rw[Bool.eq_false_iff.mpr c];rfl
  rw[e]at q;exact q
noncomputable def xE:D->List D| .tup (.str x::ps)=>aB x ps|_=>[]
noncomputable def dM(d:D)(i:Int):Option D:=if 0<=i then(xE d)[i.toNat]? else none
noncomputable def goto:D->List Int->Option D|d,[]=>some d|d,i::is=>match dM d i with|none=>none|some p=>goto p is
noncomputable def headD:D->Str| .tup (.str x::_)=>x|_=>""
noncomputable def bnd(d:D)(i:Int):Int:=if decide (V.int i=EE (headD d))=true then 1 else 0
noncomputable def over:D->List Int->Int|_,[]=>0|d,i::is=>match dM d i with|none=>0|some p=>bnd d i+over p is
theorem j0{d p:D}{i:Int}(h:Wf d)(e:dM d i=some p):Wf p:=by
 obtain⟨k,h⟩:=h;obtain⟨x,ps,rfl⟩:=cG h;unfold dM at e;split at e;·exact(jJ h e).1
 ·cases e
theorem eS{d p:D}{i:Int}{is:List Int}(e:dM d i=some p):goto d (i::is)=goto p is:=by rw[goto,e]
theorem gw{d:D}{i:Int}{is:List Int}(e:dM d i=none):goto d (i::is)=none:=by rw[goto,e]
theorem Og{d:D}{i:Int}(h1:0<=i)(h2:i<(xE d).length):∃p,dM d i=some p/\(xE d)[i.toNat]?=some p:=by unfold dM;rw[if_pos h1];exact⟨_,dD (by lia),dD (by lia)⟩
theorem zS{d:D}{i:Int}(h:¬(0<=i/\i<(xE d).length)):dM d i=none:=by
 unfold dM;split;·rename_i h1;exact List.getElem?_eq_none_iff.mpr (by lia)
 ·rfl
def rW(C:Addr):Sp:=λvs H Q E=>∃(d:D)(v:V)(i:Int),vs=[v, .int i]/\Rep H d v/\Wf d/\(∀(p:D)(u:V)(H':Hp),aQ H H'->dM d i=some p->Rep H' p u->Q u H')/\(∀H',aQ H H'->dM d i=none->E (.ref C) none H')
theorem Ag:aT ["thing","number","kids"] ["thing","number"] (ar mD):=⟨rfl,rfl,rfl,by decide+kernel,rfl,by decide+kernel,by decide+kernel⟩
theorem Po(D:Df K mg "kid_at" mD ["thing","number"])(M:Mg mg t)(o:oV K t.bp)(B:bx P w K mg bF "kids_of" (1) ["thing"] fZ)(y:bx P w K mg bF "is_number" (1) ["value"] Fd):bx P w K mg (f9 P w) "kid_at" (2) ["thing","number"] (rW t.bp):=by
 refine D.R_ Ag (λvs H Q E h=>?_) (λbase f cZ A outer s H vs Q E g h=>?_);·obtain⟨d,v,i,rfl,_⟩:=h;rfl
 obtain⟨d,v,i,rfl,r,wf,q,N⟩:=h;obtain⟨x,ps,k,rfl,T,J⟩:=jK wf;refine⟨_,(ah (aH (i:=2) Ag.nd rfl (cq rfl) (aI B g.m rfl aM (ae (pv 0) ag))) (ah (bf (L2.PW.pt (lF (G9 (l0 (aI y g.m rfl aM (ae (pv 1) ag)))) (i9 (G9 (Oz VL kH ai (pv 1) (bz bC rfl M.gE eK (ae (pv 2) ag))))))) (ak (mB (G:=(λH'=>E (.ref t.bp) none H')) o M.g_NoPlace (ae aq ag) (λpins σ H s e h' I m q=>uE I m q))) aK) (ak (aw (aS bK (pv 2) (pv 1) (λ_ _=>rfl)))))),?_⟩;try dsimp only[gV,R]
 refine zu ?_;intro _ _ _;refine⟨_,rfl,x,ps,v,rfl,r,J,λl us a S s1 h1 n=>?_⟩;have j:=n.length;have F:xE (.tup (.str x::ps))=aB x ps:=rfl;refine⟨_,rfl, .int i,_,rfl,rfl,?_⟩;have b:dM (.tup (.str x::ps)) i=none->E (.ref t.bp) none a:=λz=>N a s1 z;refine⟨true,rfl,jZ ⟨_,rfl,_,_,rfl,rfl,_,rfl,?_⟩⟩;refine ba (λc=>?_) (λc=>?_)
 ·have c:(0:Int)<=i:=of_decide_eq_true c;refine⟨_,rfl,l,_,rfl, .inl (bE.of h1),_,_,rfl,rfl,_,rfl,?_⟩;by_cases c2:i<((us.length:Nat):Int)
  ·rw[decide_eq_true c2];refine jZ ?_;obtain⟨p,e1,e2⟩:=Og (d:= .tup (.str x::ps)) c (by rw[F,<-j];exact c2);obtain⟨u,L,O⟩:=n.get e2;have C:i=((i.toNat:Nat):Int):=by lia
   exact⟨_,rfl,_,rfl,l,_,_,u,rfl,rfl,bE.of h1,(by rw[C];exact aL L),q p u a s1 e1 O⟩
  ·rw[decide_eq_false c2];exact lZ ⟨by decide,b (zS λz=>c2 (by rw[j];exact z.2))⟩
 ·have c:¬(0:Int)<=i:=of_decide_eq_false (Bool.eq_false_iff.mpr c);exact⟨_,rfl,lZ ⟨by decide,b (zS λz=>c z.1)⟩⟩
noncomputable def Sa(pl:List Int):D:= .tup (pl.map D.int)
theorem YN{H:Hp}{pl:List Int}{vs:List V}(r:bg H (pl.map D.int) vs){j:Nat}{i:Int}(e:pl[j]?=some i):vs[j]?=some (.int i):=by obtain⟨v,h1,h2⟩:=r.get (i:=j) (d:= .int i) (by rw[jP,e];rfl);rw[h1,show v=V.int i from h2]
theorem drop_cons{a:Type}{l:List a}{j:Nat}{i:a}(e:l[j]?=some i):l.drop j=i::l.drop (j+1):=by obtain⟨h,rfl⟩:=List.getElem?_eq_some_iff.mp e;exact List.drop_eq_getElem_cons h
def XN(C:Addr):Sp:=λvs H Q E=>∃(d:D)(v:V)(pl:List Int)(pv:V),vs=[v,pv]/\Rep H d v/\Wf d/\Rep H (Sa pl) pv/\(∀(e:D)(u:V)(H':Hp),aQ H H'->goto d pl=some e->Rep H' e u->Q u H')/\(∀H',aQ H H'->goto d pl=none->E (.ref C) none H')
theorem ie:aT ["thing","place","here","number"] ["thing","place"] (ar jt):=⟨rfl,rfl,rfl,by decide+kernel,rfl,by decide+kernel,by decide+kernel⟩
theorem Gn(D:Df K mg "at_place" jt ["thing","place"])(M:Mg mg t)(z:bx P w K mg (f9 P w) "kid_at" (2) ["thing","number"] (rW t.bp)):bx P w K mg (f9 P w) "at_place" (3) ["thing","place"] (XN t.bp):=by
 refine D.R_ ie (λvs H Q E h=>?_) (λbase f cZ A outer s H vs Q E C h=>?_);·obtain⟨d,v,pl,pv,rfl,_⟩:=h;rfl
 obtain⟨d,v,pl,pv,rfl,r,wf,I,q,F⟩:=h;obtain⟨a,ws,rfl,ha,y⟩:=I;have x:=y.length;rw[cV]at x;refine⟨_,(ah (aH (i:=2) ie.nd rfl (cq rfl) (pv 0)) (ah (fk WI rfl (AL (pv 1)) (bJ (i:=3) ie.nd rfl (cq rfl)) (ak (aH (i:=2) ie.nd rfl (cq rfl) (aI z C.m rfl dG (ae (pv 2) (ae (pv 3) ag)))))) (ak (aw (pv 2))))),?_⟩;try dsimp only[gV,N]
 refine zu ?_;intro _ _ _;refine⟨_,rfl,_,rfl,a,rfl,⟨_,bU.of ha⟩,?_⟩;let B:Nat->L2.St->Hp->Prop:=(λj n H'=>∃(e:KM.D)(u:V)(k:Option V),n=[some v,some (.ref a),some u,k]/\Rep H' e u/\Wf e/\goto d pl=goto e (pl.drop j)/\aQ H H');refine iw ws.length B ?_ ?_ ?_;·exact⟨d,v,none,rfl,r,wf,rfl,aQ.refl _⟩
 ·rintro j n o O⟨e,u,k,rfl,l,m,b,s1⟩;obtain⟨i,hi⟩:∃i,pl[j]?=some i:=⟨_,dD (by lia)⟩;have hw:=YN y hi;refine⟨⟨ws,_,bU.of (s1 _ _ ha),hw⟩,?_⟩;rintro R L⟨rfl,g⟩;have g:=g ws (bU.of (s1 _ _ ha));rw[hw]at g;cases g;rw[drop_cons hi]at b;refine⟨_,rfl,_,rfl,e,u,i,rfl,l,m,λp J H' s' c G=>?_,λH' s' c=>?_⟩;·exact⟨p,J,_,rfl,G,j0 m c,by rw[b,eS c],s1.trans s'⟩
  ·exact F H' (s1.trans s') (by rw[b,gw c])
 ·rintro n o⟨e,u,k,rfl,l,m,b,s1⟩;rw[x,List.drop_length]at b;exact⟨⟨ws,bU.of (s1 _ _ ha),bN _⟩,_,rfl,q e u o s1 b l⟩
end K24
end
section
namespace K24
open PySem L2 L3 KM PyProof.Rows
noncomputable def putD:D->List Int->D->D|_,[],e=>e| .tup (.str x::ps),i::is,e=> .tup (.str x::ps.set i.toNat (putD ((ps[i.toNat]?).getD .a_) is e))|d,_::_,_=>d
theorem kW{x:Str}{ps:List D}{i:Int}{p:D}(h:dM (.tup (.str x::ps)) i=some p):0<=i/\dX x=false/\ps[i.toNat]?=some p:=by
 unfold dM at h;split at h
 ·rename_i a;have h:(aB x ps)[i.toNat]?=some p:=h;unfold aB at h;split at h;·simp at h
  ·rename_i b;exact⟨a,by simpa using b,h⟩
 ·cases h
theorem xg{x:Str}{ps:List D}{i:Int}{is:List Int}{p e:D}(h:dM (.tup (.str x::ps)) i=some p):putD (.tup (.str x::ps)) (i::is) e= .tup (.str x::ps.set i.toNat (putD p is e)):=by rw[putD,(kW h).2.2];rfl
theorem KZ{b:D->Bool}:∀{cs:List Nat}{ps:List D}{i c:Nat}{q:D},eh b cs ps=true->cs[i]?=some c->dv b c q=true->eh b cs (ps.set i q)=true|[],[],_,_,_,_,e,_=>by simp at e|[],_::_,_,_,_,h,_,_=>by simp[eh]at h|_::_,[],_,_,_,h,_,_=>by simp[eh]at h|a::cs,p::ps,0,c,q,h,e,hq=>by simp at e;subst e;rw[aP,cW]at h;rw[List.set_cons_zero,aP,hq,h.2];rfl|a::cs,p::ps,i+1,c,q,h,e,hq=>by rw[aP,cW]at h;rw[List.set_cons_succ,aP,h.1,KZ h.2 (by simpa using e) hq];rfl
theorem Ky{b:D->Bool}:∀{cs:List Nat}{ps:List D}{i:Nat}{p:D},eh b cs ps=true->ps[i]?=some p->∃c,cs[i]?=some c/\dv b c p=true|[],[],_,_,_,e=>by simp at e|[],_::_,_,_,h,_=>by simp[eh]at h|_::_,[],_,_,h,_=>by simp[eh]at h|a::cs,p::ps,0,q,h,e=>by simp at e;subst e;rw[aP,cW]at h;exact⟨a,rfl,h.1⟩|a::cs,p::ps,i+1,q,h,e=>by rw[aP,cW]at h;obtain⟨c,h1,h2⟩:=Ky (i:=i) h.2 (by simpa using e);exact⟨c,by simpa using h1,h2⟩
theorem X1{b:D->Bool}{k a:Bool}{d:D}(h:bu b k d=true)(h':bu b a d=true):k=a:=by obtain⟨x,ps,rfl⟩:=cG h;obtain⟨_,_,e1,_⟩:=bO h;obtain⟨_,_,e2,_⟩:=bO h';rw[<-e1,<-e2]
theorem G5{e g:D}{l:Bool}(f:bu ay l g=true)(b:bu ay l e=true):∀(pl:List Int)(d:D)(k:Bool),bu ay k d=true->goto d pl=some g->bu ay k (putD d pl e)=true
 |[],d,k,h,z=>by cases z;rw[putD,X1 h f];exact b
 |i::is,d,k,h,z=>by
  obtain⟨x,ps,rfl⟩:=cG h;cases a:dM (.tup (.str x::ps)) i with
   |none=>rw[gw a]at z;cases z
   |some p=>
    rw[eS a]at z;rw[xg a];obtain⟨i0,q,o⟩:=kW a;obtain⟨s,h1,h2,h3,h4,h5,h6,m,_⟩:=bO h;obtain⟨c,hc,hd⟩:=Ky h3 o;refine c_ h1 h2 (KZ h3 hc ?_);have n:=m q c (qO hc);unfold dv at hd⊢;rcases n with j|j;·rw[if_pos j]at hd⊢;exact G5 f b is p true hd z
    ·rw[if_neg (by lia),if_pos j]at hd⊢;exact G5 f b is p false hd z
theorem z3{q:D}{m:Nat}(hq:depth q<=m):∀{ps:List D}{i:Nat},aN ps<=m->aN (ps.set i q)<=m|[],_,h=>by simpa using h|a::ps,0,h=>by rw[List.set_cons_zero];simp only[aN]at h⊢;lia|a::ps,i+1,h=>by rw[List.set_cons_succ];simp only[aN]at h⊢;have :=z3 (q:=q) (m:=m) hq (ps:=ps) (i:=i) (by lia);lia
noncomputable def AQ(pl:List Nat):List Int:=pl.map λn:Nat=>(n:Int)
end K24
end
section
namespace L3
open PySem PySem.Spec PyProof.Rows L2 KM
mutual noncomputable def pyD:D->PyData| .a_=> .none| .bl b=> .bool b| .int i=> .int i| .str x=> .str x| .tup ds=> .tuple (pyL ds)noncomputable def pyL:List D->List PyData|[]=>[]|d::ds=>pyD d::pyL ds end
mutual theorem Eg:∀d:D,(pyD d).depth<=depth d| .a_=>fW _| .bl _=>fW _| .int _=>fW _| .str _=>fW _| .tup ds=>by show PyData.depthAll (pyL ds)+1<=1+aN ds;have :=Ab ds;lia theorem Ab:∀ds:List D,PyData.depthAll (pyL ds)<=aN ds|[]=>fW _|d::ds=>by show max (pyD d).depth (PyData.depthAll (pyL ds))<=max (depth d) (aN ds);have h1:=Eg d;have h2:=Ab ds;lia end
section
variable{X:Cx}{pins:List (Addr×Obj)}{σ:L2.St}{H:Hp}{s:Shared}
end
mutual noncomputable def Sv:D->Bool| .a_=>true| .bl _=>false| .int _=>true| .str x=>(PyData.str x).canLay0| .tup ds=>T5 ds noncomputable def T5:List D->Bool|[]=>true|d::ds=>Sv d&&T5 ds end
mutual theorem ID:∀d:D,Sv d=true->(pyD d).canLay0=true| .a_,_=>rfl| .bl _,h=>by cases h| .int _,_=>rfl| .str x,h=>h| .tup ds,h=>D4 ds h theorem D4:∀ds:List D,T5 ds=true->PyData.canLayAll0 (pyL ds)=true|[],_=>rfl|d::ds,h=>by have h:(Sv d&&T5 ds)=true:=h;rw[cW]at h;show((pyD d).canLay0&&PyData.canLayAll0 (pyL ds))=true;rw[ID d h.1,D4 ds h.2];rfl end
theorem shp{d:D}(h:Sv d=true)(hd:depth d<=60):SeqAt.shaped (pyD d)=true:=by unfold SeqAt.shaped;rw[ID d h,Bool.true_and];exact decide_eq_true (dJ (Eg d) (by lia))
theorem Ai{J:It}{p:Addr}{l:Hp}{g:TG}{B:TT}{A:TE}{b:L2.St}{C:Hp->Prop}(n:Nat)(f:Nat->Option D)(z:l p=none)(hn:n<=sizeLine)(G:∀i a,i<n->aQ l a->J.go i a/\∀x j,J.yW i a x j->∀(R:V->Hp->Prop)(w:Hp->Prop),(∀(d:D)(v:V)k,f i=some d->aQ a k->Rep k d v->R v k)->(∀h,f i=none->aQ a h->w h)->g x b j λr t=>B r t λok h=>if ok=true then A r h R else w h)(hd:∀(vs:List V)a,aQ l a->a p=some (.lst vs)->bg a ((List.range n).filterMap f) vs->J.stop n a/\C a):∃W:Nat->Nat->List V->Hp->Prop,(∃m,W 0 m [] (upd l p (.lst [])))/\∀i m c a,W i m c a->(J.stop i a/\C a)\/(J.go i a/\∀x j,J.yW i a x j->g x b j λr t=>B r t λok h=>if ok=true then A r h λv k=>k p=some (.lst c)/\c.length<sizeLine/\∃o,o<m/\W (i+1) o (c++[v]) (upd k p (.lst (c++[v])))else∃o,o<m/\W (i+1) o c h):=by
 refine kP (Q:=λ_ H=>C H) n (λi c a=>bg a ((List.range i).filterMap f) c/\a p=some (.lst c)/\aQ l a) ⟨rfl,aj,ao z _⟩ ?_ ?_
 ·rintro i c a hi⟨q,h2,s2⟩;obtain⟨E,F⟩:=G i a hi s2;have I:c.length<sizeLine:=by have h1:=q.length;have :=List.length_filterMap_le f (List.range i);rw[List.length_range]at this;lia
  refine⟨E,λx j y=>F x j y _ _ (λd v k e s K=>⟨s _ _ h2,I,nx hi ⟨?_,aj,eB (s2.trans s) z⟩⟩) λh e u=>nx hi ⟨?_,u _ _ h2,s2.trans u⟩⟩
  ·rw[List.range_succ,List.filterMap_append];have e1:List.filterMap f [i]=[d]:=by simp[e]
   rw[e1];exact((q.mono s).append (bg.one K)).iG (s _ _ h2)
  ·rw[List.range_succ,List.filterMap_append];have e1:List.filterMap f [i]=[]:=by simp[e]
   rw[e1,lV];exact q.mono u
 ·rintro c a⟨q,h2,s2⟩;exact hd c a s2 h2 q
def Mk(σ:L2.St)(a:Hp)(b:TE)(d:D):Prop:=∀H,aQ a H->∀R:V->Hp->Prop,(∀v H',aQ H H'->Rep H' d v->R v H')->b σ H R
def Mks(σ:L2.St)(a:Hp)(b:TA)(ds:List D):Prop:=∀H,aQ a H->∀R:List V->Hp->Prop,(∀vs H',aQ H H'->bg H' ds vs->R vs H')->b σ H R
theorem gI{σ:L2.St}{a:Hp}{i:Nat}{v:V}{d:D}(h:σ[i]?=some (some v))(r:Rep a d v):Mk σ a (zw i) d:=λH s R b=>⟨v,h,b v H (aQ.refl H) (r.mono s)⟩
theorem gy{σ:L2.St}{a:Hp}{x:Str}(h:x.length<=1000:=by decide+kernel):Mk σ a (tC (.str x)) (.str x):=λH _ R b=>b _ H (aQ.refl H) ⟨rfl,h⟩
theorem eV{σ:L2.St}{a:Hp}:Mks σ a Mo []:=λH _ R b=>b [] H (aQ.refl H) rfl
theorem dU{σ:L2.St}{a:Hp}{c:TE}{b:TA}{d:D}{ds:List D}(h1:Mk σ a c d)(h2:Mks σ a b ds):Mks σ a (xj c b) (d::ds):=λH s R g=>h1 H s _ λv e s1 h=>h2 e (s.trans s1) _ λvs f s2 i=>g _ f (s1.trans s2) ⟨v,vs,rfl,h.mono s2,i⟩
theorem gG{σ:L2.St}{a:Hp}{d:TA}{ds:List D}(h:Mks σ a d ds)(hl:ds.length<=sizeLine:=by decide):Mk σ a (SF d) (.tup ds):=λH s R e=>h H s _ λvs f s1 c=>⟨by rw[c.length];exact hl,λp b=>e _ _ (s1.trans (ao b _)) ⟨p,vs,rfl,aj,c.mono (ao b _)⟩⟩
theorem SH{σ:L2.St}{a:Hp}{K:PySem.W.Frag}{c:TA}{e:TE}{ds:List D}{j:Nat}{d:D}(h:Mks σ a c ds)(hi:∀H(R:V->Hp->Prop),R (.int (j:Nat)) H->e σ H R)(hd:ds[j]?=some d)(hl:ds.length<=sizeLine:=by decide):Mk σ a (C1 (Su K) (TL c) e) d:=λH s R f=>h H s _ λvs l s1 b=>⟨by rw[b.length];exact hl,λp g=>hi _ _ (by have t:=ao g (.lst vs);obtain⟨u,i,k⟩:=b.get hd;exact⟨p,vs,_,u,rfl,rfl,bE.of aj,aL i,f u _ (s1.trans t) (k.mono t)⟩)⟩
theorem eW{σ:L2.St}{a:Hp}{K:PySem.W.Frag}{b:TA}{c:TE}{R:V->Hp->Prop}(ds:List D)(j:Nat)(d:D)(h:Mks σ a b ds)(hi:∀H(R:V->Hp->Prop),R (.int (j:Nat)) H->c σ H R)(hd:ds[j]?=some d)(hl:ds.length<=sizeLine)(e:∀v H',aQ a H'->Rep H' d v->R v H'):C1 (Su K) (TL b) c σ a R:=SH h hi hd hl a (aQ.refl _) R e
section
variable{P:Program}{w:World}
open SeqAt MeetsSeq3 in open SeqAt MeetsSeq3 in end
section
variable{X:Cx}
end
end L3
end
section
namespace K24
open PySem L2 L3 KM PyProof.Rows
seal L2.PE L2.PS L2.iO L2.PT L2.PW L2.PA L2.PG L2.Bu L2.PI L2.PC L2.PO L2.AY L2.PK L3.A8
variable{P:Program}{w:World}{K:PySem.W.Frag}{mg:Str->Option Value}{base:Heap}{t:xV}
noncomputable def zE:D->Str| .tup (.str x::_)=>x|_=>""
noncomputable def Jp(inb:Str->Bool):D->V| .str y=>if inb y=true then .str "name"else .a_|_=> .a_
noncomputable def fe(inb:Str->Bool)(x:Str)(ps:List D):V:=if x="name"then Jp inb ((ps[0]?).getD .a_)else if x="app"then(if zE ((ps[0]?).getD .a_)="fun"then .str "fun"else .a_)else if x="carry"then(if zE ((ps[2]?).getD .a_)="like"then .str "like"else .a_)else if x="first"then(if zE ((ps[0]?).getD .a_)="pair"then .str "first"else .a_)else if x="second"then(if zE ((ps[0]?).getD .a_)="pair"then .str "second"else .a_)else if x="rec"then(if zE ((ps[3]?).getD .a_)="zero"then .str "zero"else if zE ((ps[3]?).getD .a_)="next"then .str "next"else .a_)else .a_
noncomputable def cI(inb:Str->Bool):D->V| .tup (.str x::ps)=>fe inb x ps|_=> .a_
theorem O6{b:D->Bool}:∀{cs:List Nat}{ps:List D}{i c:Nat},eh b cs ps=true->cs[i]?=some c->∃p,ps[i]?=some p/\dv b c p=true|[],[],_,_,_,e=>by simp at e|[],_::_,_,_,h,_=>by simp[eh]at h|_::_,[],_,_,h,_=>by simp[eh]at h|a::cs,p::ps,0,c,h,e=>by simp at e;subst e;rw[aP,cW]at h;exact⟨p,rfl,h.1⟩|a::cs,p::ps,i+1,c,h,e=>by rw[aP,cW]at h;obtain⟨c,h1,h2⟩:=O6 (i:=i) h.2 (by simpa using e);exact⟨c,by simpa using h1,h2⟩
theorem part_of{k:Bool}{x s:Str}{ps:List D}(h:bu ay k (.tup (.str x::ps))=true)(a:dS x= .str s){i:Nat}(hi:s.cps.toList[i]?=some 116):∃p,ps[i]?=some p/\bu ay false p=true:=by obtain⟨s',e1,_,e3,_⟩:=bO h;rw[a]at e1;cases e1;obtain⟨p,h1,h2⟩:=O6 e3 hi;exact⟨p,h1,by simpa[dv]using h2⟩
theorem Zg{H:Hp}{k:Bool}{p:D}{u:V}(h:bu ay k p=true)(r:Rep H p u):∃(c:Addr)(us:List V),u= .ref c/\H c=some (.tup (.str (zE p)::us)):=by obtain⟨x,ps,rfl⟩:=cG h;obtain⟨c,vs,rfl,hc,v0,us,rfl,⟨rfl,_⟩,_⟩:=r;exact⟨c,us,rfl,hc⟩
theorem xA{H:Hp}{k:Bool}{x s:Str}{ps:List D}{us:List V}(h:bu ay k (.tup (.str x::ps))=true)(r:bg H ps us)(a:dS x= .str s){i:Nat}(hi:s.cps.toList[i]?=some 116):∃(c:Addr)(ws:List V),lX (V.str x::us) ((i+1:Nat):Int)=some (.ref c)/\H c=some (.tup (.str (zE ((ps[i]?).getD .a_))::ws)):=by obtain⟨p,h1,h2⟩:=part_of h a hi;obtain⟨u,b,d⟩:=r.get h1;obtain⟨c,ws,rfl,hc⟩:=Zg h2 d;refine⟨c,ws,aL (by simpa using b),?_⟩;rw[h1];exact hc
noncomputable def eE(aF:List (Key×V))(x:Str):Bool:=(fh aF (Sum.inr x:Key)).isSome
def yf:Sp:=λvs H Q _=>∃(d:D)(v:V)(b:Addr)(aF:List (Key×V)),vs=[v, .ref b]/\Rep H d v/\Wf d/\H b=some (.dK aF)/\∀H',aQ H H'->Q (cI (eE aF) d) H'
theorem oM{k:Bool}{ps:List D}(h:bu ay k (.tup (.str "name"::ps))=true):∃y,ps=[.str y]:=by
 obtain⟨s',e1,_,e3,_⟩:=bO h;rw[gN]at e1;cases e1;rw[KN]at e3;match ps,e3 with
  |[],e3=>simp[eh]at e3
  |[p],e3=>
   rw[aP,cW]at e3;have :ay p=true:=by simpa[dv]using e3.1
   cases p with|str y=>exact⟨y,rfl⟩|_=>simp[ay]at this
  |p::q::r,e3=>rw[aP,cW]at e3;have :=e3.2;simp[eh]at this
def Rul(K:PySem.W.Frag)(r:Addr):Prop:=∃a1 a2 a3 a4 a5 b1 b2 b3 a b c:Addr,mf K r [("app", .ref a1),("rec", .ref a2),("carry", .ref a3),("first", .ref a4),("second", .ref a5)]/\zg K a1 [.ref b1]/\zg K b1 [.int 1, .str "fun", .str "fun"]/\zg K a2 [.ref b2, .ref b3]/\zg K b2 [.int 4, .str "zero", .str "zero"]/\zg K b3 [.int 4, .str "next", .str "next"]/\zg K a3 [.ref a]/\zg K a [.int 3, .str "like", .str "like"]/\zg K a4 [.ref b]/\zg K b [.int 1, .str "pair", .str "first"]/\zg K a5 [.ref c]/\zg K c [.int 1, .str "pair", .str "second"]
theorem aeP(v1 v2 a b c:V)(x:Str):KTD.datumAt x [(("app":Str),v1),("rec",v2),("carry",a),("first",b),("second",c)]=if x="app"then some v1 else if x="rec"then some v2 else if x="carry"then some a else if x="first"then some b else if x="second"then some c else none:=by simp only[KTD.datumAt,decide_eq_true_eq]
noncomputable abbrev Rw:=Nat×Str×Str
noncomputable def zz(ps:List D)(r:Rw):Bool:=decide (zE ((ps[r.1]?).getD .a_)=r.2.1)
noncomputable def fz(ps:List D):List Rw->V|[]=> .a_|r::rs=>if zz ps r=true then .str r.2.2 else fz ps rs
theorem kE{ps:List D}:∀{rows:List Rw}{i:Nat},(∀r∈rows.take i,zz ps r=false)->fz ps rows=fz ps (rows.drop i)|rows,0,_=>rfl|[],i+1,_=>rfl|r::rs,i+1,h=>by have a:=h r (by simp);rw[fz,if_neg (by rw[a];decide),List.drop_succ_cons];exact kE λr b=>h r (by rw[List.take_succ_cons];exact eA _ b)
theorem jy:aT ["thing","book","part","word","rule"] ["thing","book"] (ar kI):=⟨rfl,rfl,rfl,by decide+kernel,rfl,by decide+kernel,by decide+kernel⟩
theorem ML(D:Df K mg "rule_of" kI ["thing","book"])(M:Mg mg t)(T:Rul K t.Jl):bx P w K mg bF "rule_of" (1) ["thing","book"] yf:=by
 refine D.ok jy (λvs H Q E h=>?_) (λbase f cZ A outer s H vs Q E g h=>?_);·obtain⟨d,v,b,aF,rfl,_⟩:=h;rfl
 obtain⟨d,v,b,aF,rfl,r,wf,hb,q⟩:=h;have hu:=ql g;obtain⟨x,ps,k,rfl,Ni,Ha⟩:=jK wf;obtain⟨a,M3,rfl,ha,v0,us,rfl,⟨rfl,hx⟩,rp⟩:=id r;have X:lX (V.str x::us) 0=some (.str x):=aL (j:=0) rfl;obtain⟨a1,a2,a3,a4,a5,b1,b2,b3,b4,b5,b6,TT,s1,s2,s3,s4,s5,s6,s7,s8,s9,Nj,UA⟩:=T;refine⟨_,(ah (bf (aA bQ (aS aU (pv 0) ai (λ_ _=>rfl)) aq (aR _)) (ak (aw (jU (Ny (Qj hu (aS aU (pv 0) ai (λ_ _=>rfl)) (pv 1))) aq lW))) aK) (ah (fk PassesOwn.never rfl (AL (OR (cM M.g_RULES rfl) (aS aU (pv 0) ai (λ_ _=>rfl)) (aE ag) ⟨rfl,rfl,rfl,rfl⟩)) (yn (n:=3) rfl (d4 (bJ (i:=2) jy.nd rfl (cq rfl)) (d4 (bJ (i:=3) jy.nd rfl (cq rfl)) (d4 (bJ (i:=4) jy.nd rfl (cq rfl)) m7)))) (ak (bf (aA bQ (aS aU (aS aU (pv 0) (pv 2) (λ_ _=>rfl)) ai (λ_ _=>rfl)) (pv 3) (aR _)) (ak (aw (pv 4))) aK))) (ak (aw lW)))),?_⟩;try dsimp only[gV,cP]
 refine zu ?_;intro _ _ _;refine⟨_,rfl,a,_,_,_,rfl,rfl,bU.of ha,X,rfl,_,rfl,?_⟩;refine ba (λc=>?_) (λc=>?_);·have c:V.str x=V.str "name":=of_decide_eq_true c;cases c;obtain⟨y,rfl⟩:=oM Ni;obtain⟨u,xN,rfl,⟨rfl,_⟩,ru⟩:=rp;cases(show xN=[]from ru);have eq1:cI (eE aF) (.tup [.str "name", .str y])=if eE aF y=true then .str "name"else .a_:=rfl;rw[eq1]at q;have o:=q H (aQ.refl H);refine⟨_,rfl,a,_,_, .str y,rfl,rfl,bU.of ha,aL (j:=1) rfl,_,rfl,b,_,rfl,l_.k (k:=Sum.inr y) hb,_,rfl,?_⟩;show if eE aF y=true then _ else _;cases RE:eE aF y with|true=>rw[RE]at o;exact o|false=>rw[RE]at o;exact o
 have nn:x≠"name":=λz=>c (by rw[z];decide+kernel);refine⟨t.Jl,_,rfl,TT,_,rfl,a,_,_,_,rfl,rfl,bU.of ha,X,(c7 rfl),λB hp0=>⟨x,rfl,?_⟩⟩;have C:=ao hp0 (.tup []);have Y:(upd H B (.tup [])) B=some (.tup []):=aj;have rp0:=rp.mono C;have Z:=C _ _ ha;generalize upd H B (.tup [])=J at C Y rp0 Z⊢;rw[aeP];have key:∃(c:Addr)(rows:List Rw)(bs:List V),(if x="app"then some (V.ref a1)else if x="rec"then some (.ref a2)else if x="carry"then some (.ref a3)else if x="first"then some (.ref a4)else if x="second"then some (.ref a5)else none).getD (.ref B)= .ref c/\(∀m,aQ J m->bU K m c bs)/\bs.length=rows.length/\(∀(i:Nat)(r:Rw),rows[i]?=some r->∃b':Addr,bs[i]?=some (V.ref b')/\zg K b' [.int ((r.1+1:Nat):Int), .str r.2.1, .str r.2.2])/\(∀r∈rows,∃s',dS x= .str s'/\s'.cps.toList[r.1]?=some 116)/\fe (eE aF) x ps=fz ps rows:=by
  have one:∀(r:Rw)(b':Addr),zg K b' [.int ((r.1+1:Nat):Int), .str r.2.1, .str r.2.2]->∀(i:Nat)(l:Rw),[r][i]?=some l->∃W,[V.ref b'][i]?=some (.ref W)/\zg K W [.int ((l.1+1:Nat):Int), .str l.2.1, .str l.2.2]:=λr b' h i l e=>by match i,e with|0,e=>cases e;exact⟨b',rfl,h⟩|i+1,e=>simp at e
  unfold fe;rw[if_neg nn];by_cases e1:x="app"
  ·subst e1;refine⟨a1,[(0,"fun","fun")],[.ref b1],by simp,λm _=> .inr s1,rfl,one _ _ s2,λr g=>?_,?_⟩;·rw[List.mem_singleton.mp g];exact⟨"tt",by decide+kernel,by decide+kernel⟩
   ·simp[fz,zz]
  by_cases e2:x="rec"
  ·subst e2;refine⟨a2,[(3,"zero","zero"),(3,"next","next")],[.ref b2, .ref b3],by simp[e1],λm _=> .inr s3,rfl,λi r e=>?_,λr g=>?_,?_⟩;·match i,e with|0,e=>cases e;exact⟨b2,rfl,s4⟩|1,e=>cases e;exact⟨b3,rfl,s5⟩|i+2,e=>simp at e
   ·have hr1:r.1=3:=by simp only[kZ,pj,or_false]at g;rcases g with rfl|rfl<;>rfl
    rw[hr1];exact⟨"kttt",by decide+kernel,by decide+kernel⟩
   ·have n1:(Str.ofString "rec")≠Str.ofString "carry":=by decide+kernel
    have n2:(Str.ofString "rec")≠Str.ofString "first":=by decide+kernel
    have n3:(Str.ofString "rec")≠Str.ofString "second":=by decide+kernel
    rw[if_neg e1,if_neg n1,if_neg n2,if_neg n3,if_pos rfl];simp[fz,zz]
  by_cases e3:x="carry"
  ·subst e3;refine⟨a3,[(2,"like","like")],[.ref b4],by simp[e1,e2],λm _=> .inr s6,rfl,one _ _ s7,λr g=>?_,?_⟩;·rw[List.mem_singleton.mp g];exact⟨"ktt",by decide+kernel,by decide+kernel⟩
   ·simp[fz,zz,e1]
  by_cases p:x="first"
  ·subst p;refine⟨a4,[(0,"pair","first")],[.ref b5],by simp[e1,e2,e3],λm _=> .inr s8,rfl,one _ _ s9,λr g=>?_,?_⟩;·rw[List.mem_singleton.mp g];exact⟨"t",by decide+kernel,by decide+kernel⟩
   ·simp[fz,zz,e1,e3]
  by_cases L:x="second"
  ·subst L;refine⟨a5,[(0,"pair","second")],[.ref b6],by simp[e1,e2,e3,p],λm _=> .inr Nj,rfl,one _ _ UA,λr g=>?_,?_⟩;·rw[List.mem_singleton.mp g];exact⟨"t",by decide+kernel,by decide+kernel⟩
   ·simp[fz,zz,e1,e3,p]
  ·exact⟨B,[],[],by simp[e1,e2,e3,p,L],λm hs=>bU.of (hs _ _ Y),rfl,(λi r e=>by simp at e),(λr g=>absurd g (by simp)),(by simp[fz,e1,e2,e3,p,L])⟩
 obtain⟨c,rows,bs,ec,hc,hl,GK,ad8,Fq⟩:=key;rw[ec];refine⟨c,rfl,⟨bs,hc J (aQ.refl _)⟩,?_⟩;let EJ:Nat->L2.St->Hp->Prop:=(λi U H'=>∃(pv S R:Option V),U=[some (.ref a),some (.ref b),pv,S,R]/\(∀r∈rows.take i,zz ps r=false)/\H'=J);refine iw bs.length EJ ?_ ?_ ?_;·exact⟨none,none,none,rfl,λr g=>by simp at g,rfl⟩
 ·rintro i U m hi⟨pv',S,R,rfl,F,rfl⟩;obtain⟨l,G⟩:∃r,rows[i]?=some r:=⟨_,dD (by lia)⟩;obtain⟨b',Vl,sb'⟩:=GK i l G;refine⟨⟨bs,_,hc _ (aQ.refl _),Vl⟩,?_⟩;rintro x' H2⟨rfl,I⟩;have I:=I bs (hc _ (aQ.refl _));rw[Vl]at I;cases I;obtain⟨s',ks,ki⟩:=ad8 l (qO G);obtain⟨c0,ws,Cg,hc0⟩:=xA Ni rp0 ks ki;refine⟨b',_,rfl, .inr sb',rfl,_,_,rfl,_,_,rfl,_,_,rfl,rfl,?_⟩;refine⟨_,rfl,_,rfl,a,_,_, .ref c0,rfl,rfl,bU.of Z,Cg,c0,_,_,_,rfl,rfl,bU.of hc0,aL (j:=0) rfl,_,rfl,rfl,_,rfl,?_⟩;have hd:rows.drop i=l::rows.drop (i+1):=by obtain⟨h,rfl⟩:=List.getElem?_eq_some_iff.mp G;exact List.drop_eq_getElem_cons h
  refine ba (λch=>?_) (λch=>?_)
  ·have ch:V.str (zE ((ps[l.1]?).getD .a_))=V.str l.2.1:=of_decide_eq_true ch;injection ch with ch;have O:zz ps l=true:=decide_eq_true ch;refine⟨_,rfl,?_⟩;have N:cI (eE aF) (.tup (.str x::ps))= .str l.2.2:=by show fe (eE aF) x ps=_;rw[Fq,kE F,hd,fz,if_pos O]
   have o:=q _ C;rw[N]at o;exact o
  ·have O:zz ps l=false:=decide_eq_false λz=>ch (by rw[z];exact decide_eq_true rfl);refine⟨_,_,_,rfl,λr g=>?_,rfl⟩;rw[List.take_add_one,G]at g;rcases List.mem_append.mp g with g|g;·exact F r g
   ·have :r=l:=by simpa using g
    rw[this];exact O
 ·rintro U m⟨pv',S,R,rfl,F,rfl⟩;refine⟨⟨bs,hc _ (aQ.refl _),bN _⟩,?_⟩;have N:cI (eE aF) (.tup (.str x::ps))= .a_:=by show fe (eE aF) x ps=_;rw[Fq,kE F,hl,List.drop_length,fz]
  have o:=q _ C;rw[N]at o;exact o
seal L3.PH L3.PB
theorem D3{H:Hp}:∀{ds:List D}{vs:List V}{d:D}{v:V}(i:Nat),bg H ds vs->Rep H d v->bg H (ds.set i d) (vs.set i v)|[],_,_,_,_,r,_=>by have r:_=[]:=r;subst r;exact rfl|_::_,_,_,_,0,⟨v,r,e,q,t⟩,h=>by subst e;exact⟨_,_,rfl,h,t⟩|_::_,_,_,_,i+1,⟨v,r,e,q,t⟩,h=>by subst e;exact⟨_,_,rfl,q,D3 i t h⟩
def IA(C:Addr)(n:Nat):Sp:=λvs H Q E=>∃(d:D)(v:V)(pl:List Int)(pv:V)(e:D)(a:V),vs=[v,pv,a]/\Rep H d v/\Wf d/\Rep H (Sa pl) pv/\Rep H e a/\pl.length<n/\(∀(u:V)(H':Hp),aQ H H'->(goto d pl).isSome=true->Rep H' (putD d pl e) u->Q u H')/\(∀H',aQ H H'->goto d pl=none->E (.ref C) none H')
theorem iq:aT ["thing","place","new","kid","kids"] ["thing","place","new"] (ar eY):=⟨rfl,rfl,rfl,by decide+kernel,rfl,by decide+kernel,by decide+kernel⟩
theorem zk{n:Nat}(D:Df K mg "changed_at" eY ["thing","place","new"])(M:Mg mg t)(iF:bx P w K mg (f9 P w) "kid_at" (2) ["thing","number"] (rW t.bp))(cb:bx P w K mg bF "kids_of" (1) ["thing"] fZ)(d6:bx P w K mg bF "rebuilt" (1) ["thing","kids"] iH)(jo:bx P w K mg (f9 P w) "changed_at" (n+3) ["thing","place","new"] (IA t.bp n)):bx P w K mg (f9 P w) "changed_at" (n+4) ["thing","place","new"] (IA t.bp (n+1)):=by
 refine D.R_ iq (λvs H Q E h=>?_) (λbase f cZ A outer s H vs Q E m h=>?_);·obtain⟨d,v,pl,pv,e,F,rfl,_⟩:=h;rfl
 obtain⟨d,v,pl,pv,e,F,rfl,r,wf,rp,W,hn,q,U⟩:=h;obtain⟨x,ps,k,rfl,Ni,S⟩:=jK wf;obtain⟨a,ws,rfl,ha,X⟩:=id rp;have T:=X.length;rw[cV]at T;refine⟨_,(ah (bf (aA bQ (bz bC rfl M.gE eK (ae (pv 1) ag)) ai (aR _)) (ak (aw (pv 2))) aK) (ah (aH (i:=3) iq.nd rfl (cq rfl) (aI iF m.m rfl dG (ae (pv 0) (ae (aS aU (pv 1) ai (λ_ _=>rfl)) ag)))) (ah (aH (i:=4) iq.nd rfl (cq rfl) (aI cb m.m rfl aM (ae (pv 0) ag))) (ah (Gx (aI jo m.m rfl dG (ae (pv 3) (ae (cg Js (pv 1) (bZ ai) bI) (ae (pv 2) ag)))) (Px (pv 4) (aS aU (pv 1) ai (λ_ _=>rfl)) set_list)) (ak (aw (aI d6 m.m rfl aM (ae (pv 0) (ae (pv 4) ag))))))))),?_⟩;try dsimp only[gV,cP]
 refine X7 ?_;intro _ _ _ _ _;refine⟨_,rfl,a,_,rfl, .inr (bU.of ha),rfl,_,rfl,?_⟩;refine ba (λc=>?_) (λc=>?_);·have c:V.int ((ws.length:Nat):Int)=V.int 0:=of_decide_eq_true c;injection c with c;have I:pl=[]:=List.length_eq_zero_iff.mp (by lia);subst I;exact⟨_,rfl,q F H (aQ.refl H) rfl W⟩
 have zq:pl≠[]:=λz=>c (by subst z;have :ws.length=0:=T;rw[this];exact decide_eq_true rfl);obtain⟨i,is,rfl⟩:∃i is,pl=i::is:=by cases pl with|nil=>exact absurd rfl zq|cons i is=>exact⟨i,is,rfl⟩
 obtain⟨u0,B,rfl,J,adZ⟩:=X;have J:u0=V.int i:=J;subst J;have R:lX (V.int i::B) 0=some (.int i):=aL (j:=0) rfl;refine⟨_,rfl,_,rfl,a,_,_,_,rfl,rfl,bU.of ha,R,_,v,i,rfl,r,wf,λp u O s1 b ru=>?_,λO s1 b=>U O s1 (gw b)⟩;obtain⟨i0,hx,I⟩:=kW b;refine⟨_,rfl,x,ps,v,rfl,r.mono s1,S,λo us H2 JS s2 h2 L=>?_⟩;have l2:=L.length;have hk:aB x ps=ps:=by unfold aB;rw[hx];rfl
 rw[hk]at L l2;have Y:=s1.trans s2;refine⟨_,rfl,_,rfl,_,rfl,a,_,rfl,Y _ _ ha,λb1 H3 l h3=>?_⟩;have h3:H3 b1=some (.tup B):=by have z:=kO (V.int i::B) 1;rw[show((1:Nat):Int)=1 from rfl]at z;rw[z]at h3;exact h3
 have y:=Y.trans l;refine⟨_,rfl,p,u,is, .ref b1,e,F,rfl,ru.mono (s2.trans l),j0 wf b,⟨b1,B,rfl,h3,adZ.mono y⟩,W.mono y,(by rw[bS]at hn;lia),λu2 C g G r4=>?_,λC g G=>U C (y.trans g) (by rw[eS b];exact G)⟩;have hl:i.toNat<us.length:=by have :=(List.getElem?_eq_some_iff.mp I).1;lia
 have Z:=y.trans g;refine⟨_,rfl,_,rfl,a,_,_,_,rfl,rfl,bU.of (Z _ _ ha),R,o,us,_,i.toNat,rfl,rfl,(l.trans g) _ _ h2,?_,?_⟩;·unfold V7;rw[if_pos (by lia),if_pos (by lia)]
 have h24:=(l.trans g) _ _ h2;have hf:H o=none:=s1.free JS;have s5:aQ H (upd C o (.lst (us.set i.toNat u2))):=eB Z hf;refine⟨_,rfl,_,rfl,x,ps,ps.set i.toNat (putD p is e),v,o,_,rfl,r.mono s5,aj,(D3 i.toNat (L.mono (l.trans g)) r4).iG h24,(by rw[List.length_set];exact S),λu5 H6 s6 N=>?_⟩;refine q u5 H6 (s5.trans s6) (by rw[eS b];exact G) ?_;rw[xg b];have adG:ps.set i.toNat (putD p is e)≠[]:=λz=>by have :=congrArg List.length z;rw[List.length_set]at this;have :ps.length=0:=this;lia
 unfold cE at N;rw[if_neg adG]at N;exact N
theorem oh(D:Df K mg "changed_at" eY ["thing","place","new"])(M:Mg mg t)(a:bx P w K mg (f9 P w) "kid_at" (2) ["thing","number"] (rW t.bp))(b:bx P w K mg bF "kids_of" (1) ["thing"] fZ)(c:bx P w K mg bF "rebuilt" (1) ["thing","kids"] iH):∀n:Nat,bx P w K mg (f9 P w) "changed_at" (n+3) ["thing","place","new"] (IA t.bp n)|0=>bx.never D λvs H Q E⟨d,v,pl,pv,e,f,_,_,_,_,_,h,_⟩=>absurd h (Nat.not_lt_zero _)|n+1=>zk D M a b c (oh D M a b c n)
def Vk(C G:Addr)(n:Nat):Sp:=λvs H Q E=>∃(d:D)(v:V)(pl:List Int)(pv:V)(e:D)(a:V),vs=[v,pv,a]/\Rep H d v/\Wf d/\Rep H (Sa pl) pv/\Rep H e a/\pl.length<100/\((goto d pl).isSome=true->Rz (putD d pl e) n)/\(∀(u:V)(H':Hp),aQ H H'->(goto d pl).isSome=true->(dz (putD d pl e)||eM (putD d pl e))=false->Rep H' (putD d pl e) u->Q u H')/\(∀H',aQ H H'->goto d pl=none->E (.ref C) none H')/\(∀H',aQ H H'->(goto d pl).isSome=true->(dz (putD d pl e)||eM (putD d pl e))=true->E (.ref G) none H')
theorem Gf:aT ["thing","place","new"] ["thing","place","new"] (ar kT):=⟨rfl,rfl,rfl,by decide+kernel,rfl,by decide+kernel,by decide+kernel⟩
theorem Mc{n:Nat}(D:Df K mg "with_at" kT ["thing","place","new"])(M:Mg mg t)(hn:99<=n)(m:bx P w K mg (f9 P w) "changed_at" (103) ["thing","place","new"] (IA t.bp 100))(l:bx P w K mg (f9 P w) "bounded" (n+4) ["thing"] (oK t.cu n)):bx P w K mg (f9 P w) "with_at" (n+5) ["thing","place","new"] (Vk t.bp t.cu n):=by
 refine D.R_ Gf (λvs H Q E h=>?_) (λbase f cZ A outer s H vs Q E j h=>?_);·obtain⟨d,v,pl,pw,e,i,rfl,_⟩:=h;rfl
 obtain⟨d,v,pl,pw,e,i,rfl,r,wf,y,x,hl,rz,q,o,p⟩:=h;refine⟨_,(ak (aw (aI l j.m rfl dG (ae (aI m j.m rfl dG (ae (pv 0) (ae (pv 1) (ae (pv 2) ag)))) ag)))),?_⟩;try dsimp only[gV,z]
 refine⟨_,rfl,_,rfl,_,rfl,d,v,pl,pw,e,i,rfl,r,wf,y,x,hl,λu g s1 a k=>?_,λg s1 a=>o g s1 a⟩;exact⟨_,u,rfl,k,rz a,λb s2 c=>q u b (s1.trans s2) a c (k.mono s2),λb s2 c=>p b (s1.trans s2) a c⟩
end K24
end
section
namespace L3
open PySem PySem.Spec PyProof.Rows L2 KM
noncomputable abbrev jH(qual:Str):HO:= .zf (.code qual)
structure iI(ps cs:List Str)(scope:Scope):Prop where
 kind:scope.kind= .function
 co:scope.isCoroutine=false
 gen:scope.isGenerator=false
 oz:∀x∈scope.names,x.2≠ .cell
 par:∀x∈ps,scope.names.lookup x=some .local
 nd:(ps++cs).Nodup
 free:∀x∈cs,scope.names.lookup x=some .free
 all:∀x,scope.names.lookup x=some .free->x∈cs
structure xM(h:Heap)(f c:Addr)(name qual:Str)(params:Arguments)(body:List Stmt)(scope:Scope)(cs:List Str)(ws:List V)(cl:List (Str×Addr))(doc pm ct:Value):Prop where
 fo:h.get? f=some {cls:= .type "function",data:= .func (PySem.W.fnX name qual params body scope cl .none .none doc pm none (.ref c) ct)}
 inj:∀x y a,cl.lookup x=some a->cl.lookup y=some a->x=y
 own:∀x a,cl.lookup x=some a->x∈cs
 cell:∀(i:Nat)(x:Str),cs[i]?=some x->∃(v:V)(a:Addr)(u:Value),ws[i]?=some v/\cl.lookup x=some a/\RelV v u/\h.IsCell a (some u)
 len:ws.length=cs.length
section
variable{h h':Heap}{f c:Addr}{name qual:Str}{params:Arguments}{body:List Stmt}{scope:Scope}{cs:List Str}{ws:List V}{cl:List (Str×Addr)}{doc pm ct:Value}
theorem xM.keeps(C:xM h f c name qual params body scope cs ws cl doc pm ct)(k:∀b o,h.get? b=some o->h'.get? b=some o):xM h' f c name qual params body scope cs ws cl doc pm ct:=⟨k _ _ C.fo,C.inj,C.own,λi x e=>let⟨v,a,u,h1,h2,h3,o,h4,h5⟩:=C.cell i x e;⟨v,a,u,h1,h2,h3,o,k _ _ h4,h5⟩,C.len⟩
end
noncomputable abbrev l9(qual:Str)(scope:Scope)(L f c:Addr)(cl:List (Str×Addr)):Env:=PySem.W.envX qual scope L f (.ref c) cl
noncomputable def Dv(CX:oX)(P:Program)(w:World)(K:PySem.W.Frag)(mg:Str->Option Value)(base:Heap)(N:List Str)(qual:Str)(scope:Scope)(f c:Addr)(cl:List (Str×Addr))(A:Around)(outer:List Env)(s:Shared)(H:Hp)(E:XK):Cx where prog:=P;w:=w;K:=K;mg:=mg;base:=base;A:=A.deeper (l9 qual scope s.heap.objs.size f c cl);N:=N;cD:=s;H₀:=H;env:=l9 qual scope s.heap.objs.size f c cl;outer:=outer;stack:=l9 qual scope s.heap.objs.size f c cl::outer;ex:=[];calm:=true;fn:=λ_=>false;pn:=[];xe:=λe s'=>wpAny (model P w) (A.deeper (l9 qual scope s.heap.objs.size f c cl)) (leaving (l9 qual scope s.heap.objs.size f c cl) e) (λ_ a=>CX A.handled outer H s E e a) (λe' a=>CX A.handled outer H s E e' a) s'
theorem yb{a:Type}:∀{l:List (Str×a)}{x:Str}{v:a},(l.map (·.1)).Nodup->(x,v)∈l->l.lookup x=some v
 |[],_,_,_,h=>by cases h
 |(y,w)::l,x,v,nd,h=>by
  rw[ff,List.nodup_cons]at nd;rw[nQ];rcases List.mem_cons.mp h with e|h;·cases e;simp
  ·have b:x≠y:=λz=>nd.1 (by rw[<-z];exact List.mem_map.mpr ⟨(x,v),h,rfl⟩);have :(x==y)=false:=by simpa using b
   rw[this];exact yb nd.2 h
theorem Ap:∀{ps:List Str}(us:List Value),ps.Nodup->((ps.zip us).map (·.1)).Nodup|[],us,_=>by simp|p::ps,[],_=>by simp|p::ps,u::us,nd=>by rw[List.nodup_cons]at nd;rw[List.zip_cons_cons,ff,List.nodup_cons];refine⟨λh=>nd.1 ?_,Ap us nd.2⟩;obtain⟨⟨a,b⟩,hm,e⟩:=List.mem_map.mp h;cases e;exact(List.of_mem_zip hm).1
theorem Nv{ps:List Str}{us:List Value}(nd:ps.Nodup){i:Nat}{x:Str}{u:Value}(h1:ps[i]?=some x)(h2:us[i]?=some u):(ps.zip us).reverse.lookup x=some u:=by have hm:(x,u)∈(ps.zip us).reverse:=List.mem_reverse.mpr (qO (i:=i) (by rw[List.getElem?_zip_eq_some];exact⟨h1,h2⟩));refine yb ?_ hm;have a:((ps.zip us).map (·.1)).Nodup:=Ap us nd;rw[List.map_reverse];exact(List.reverse_perm _).nodup_iff.mpr a
theorem Ua{CX:oX}{P:Program}{w:World}{K:PySem.W.Frag}{mg:Str->Option Value}{base:Heap}{ps cs:List Str}{name qual:Str}{params:Arguments}{body:List Stmt}{scope:Scope}{f c:Addr}{cl:List (Str×Addr)}{doc pm ct:Value}{A:Around}{outer:List Env}{s:Shared}{H:Hp}{E:XK}{us:List Value}{vs ws:List V}{h1:Heap}{t1:Nat}(S:iI ps cs scope)(e0:Es P w K mg base A outer s H)(C:xM base f c name qual params body scope cs ws cl doc pm ct)(hl:vs.length=ps.length)(r:Vals vs us)(n:h1.Ns s.heap.objs.size (λx=>(ps.zip us).reverse.lookup x))(j:∀b o,s.heap.get? b=some o->h1.get? b=some o):Inv (Dv CX P w K mg base (ps++cs) qual scope f c cl A outer s H E) [] (vs.map some++ws.map some) H {s with heap:=h1,toks:=t1}:=by
 have m:∀b:Addr,b∉(Dv CX P w K mg base (ps++cs) qual scope f c cl A outer s H E).ex:=λb z=>absurd (show b∈([]:List Addr)from z) (by simp);have cellOf:∀x a,cl.lookup x=some a->∃u,base.IsCell a (some u):=λx a e=>by obtain⟨i,hi⟩:=List.mem_iff_getElem?.mp (C.own x a e);obtain⟨v,F,u,_,e2,_,h⟩:=C.cell i x hi;rw[e]at e2;cases e2;exact⟨u,h⟩
 have up:∀{a:Addr}{v:Option Value},base.IsCell a v->h1.IsCell a v:=λ⟨o,k,hd⟩=>⟨o,j _ _ (e0.bs _ _ k).1,hd⟩;refine⟨⟨e0.mod,S.kind,rfl,rfl,bN _,C.inj,λy g=>?_,λy c z=>(by cases z),λ_=>e0.hdl.toP,Around.frames_deeper e0.frames, .inr ⟨rfl,rfl⟩,λb z=>absurd z (m b),e0.bs,e0.Ft,λb _ _=>m b,λb z=>absurd z (m b),e0.jF,e0.R3⟩,rfl,e0.bare,Un.kept j,⟨_,n,λi y v d h2 h3=>?_⟩,λy a e=>?_,e0.cj.fresh (bN _),λy a e=>?_,λp q=>absurd (show p∈([]:List (Addr×Obj))from q) (by simp),e0.cj.kept j,?_⟩
 ·have g:scope.names.lookup y=some .cell\/scope.names.lookup y=some .free:=g;rcases g with g|g;·exact absurd rfl (S.oz _ (PySem.mem_of_lookup g))
  ·obtain⟨i,hi⟩:=List.mem_iff_getElem?.mp (S.all y g);obtain⟨v,a,u,_,e2,_⟩:=C.cell i y hi;exact⟨a,e2⟩
 ·have d:(ps++cs)[i]?=some y:=d;by_cases hi:i<ps.length;·rw[EZ hi]at d;rw[EZ (by rw[cV];lia),jP]at h2;obtain⟨D,l,e⟩:=Option.map_eq_some_iff.mp h2;cases e;obtain⟨u,t,B⟩:=r.get l;have nd:=(List.nodup_append.mp S.nd).1;exact⟨u,B, .inl ⟨S.par y (qO d),Nv nd d t⟩⟩
  ·rw[List.getElem?_append_right (by lia)]at d;rw[List.getElem?_append_right (by rw[cV];lia),cV,hl,jP]at h2;obtain⟨D,l,e⟩:=Option.map_eq_some_iff.mp h2;cases e;obtain⟨v2,a,u,e1,e2,e3,h⟩:=C.cell _ y d;rw[l]at e1;cases e1;exact⟨u,e3, .inr ⟨.inr (S.free y (qO d)),a,e2,up h⟩⟩
 ·obtain⟨u,h⟩:=cellOf y a e;exact⟨_,up h⟩
 ·obtain⟨u,o,k,_⟩:=cellOf y a e;exact(e0.bs _ _ k).2
 ·show(vs.map some++ws.map some).length=(ps++cs).length;rw[dZ,dZ,cV,cV,hl,C.len]
theorem TR{CX:oX}{P:Program}{w:World}{K:PySem.W.Frag}{mg:Str->Option Value}{base:Heap}{k:Nat}{ps cs:List Str}{name qual:Str}{params:Arguments}{body:List Stmt}{scope:Scope}{f c:Addr}{cl:List (Str×Addr)}{doc pm ct:Value}{A:Around}{outer:List Env}{s:Shared}{H:Hp}{Q:VK}{E:XK}{us:List Value}{vs ws:List V}(S:iI ps cs scope)(e0:Es P w K mg base A outer s H)(h:da (k+1) A)(C:xM base f c name qual params body scope cs ws cl doc pm ct)(hc:H c=some (jH qual))(hl:vs.length=ps.length)(r:Vals vs us)(hb:BindsTo s (PySem.W.fnX name qual params body scope cl .none .none doc pm none (.ref c) ct) ⟨us,[]⟩ (ps.zip us))(i:da k (A.deeper (l9 qual scope s.heap.objs.size f c cl))->∃t,iO (Dv CX P w K mg base (ps++cs) qual scope f c cl A outer s H E) body t/\t {nx:=λ_ H'=>Q .a_ H',rt:=Q} (vs.map some++ws.map some) H):codeAny (model P w) A (.call (.ref f) ⟨us,[]⟩) (CR CX A.handled outer P w H s Q E) s:=by have p:s.heap.NoLimit:=e0.mod.nolimit.keeps λb o e=>(e0.bs b o e).1;have j:s.heap.CodeRec (.ref c) qual:=(show cK P w H s.heap c (jH qual)from e0.cj c _ hc);refine codeAny_call_def (fd:=PySem.W.fnX name qual params body scope cl .none .none doc pm none (.ref c) ct) (body:=body) (binds:=ps.zip us) h.depth (e0.bs _ _ C.fo).1 rfl p j rfl hb S.oz (λy n=>S.par y.1 (List.of_mem_zip n).1) (λh₁ m l=>?_) S.co S.gen S.kind;obtain⟨t,ht,hq⟩:=i (h.deeper _);have I:=Ua (CX:=CX) (E:=E) (t1:=s.toks+(ps.zip us).length) S e0 C hl r m l;refine gg (ht [] _ _ H _ I hq) (λfl s' a=>?_) λe s' a=>a;have fin:∀{d:L2.St}{H':Hp}{v:V}{u:Value},Inv (Dv CX P w K mg base (ps++cs) qual scope f c cl A outer s H E) [] d H' s'->RelV v u->Q v H'->CE outer P w H s Q u s':=λ{d H' v u}J g q=>⟨v,H',J.os,J.bare,J.base,J.cj,g,q⟩;cases fl with|ret u=>obtain⟨v,d,H',J,g,q⟩:=a;exact fin J g q|next=>obtain⟨d,H',J,q⟩:=a;exact fin (v:=V.a_) (u:=Value.none) J rfl q|brk=>obtain⟨_,_,_,q⟩:=a;exact False.elim q|cont=>obtain⟨_,_,_,q⟩:=a;exact False.elim q
def jM(H:Hp)(T:Addr)(qual:Str)(a:Pos):Prop:=H T=some (.zf (.tab qual (rawInt a.line) (rawInt a.col)))
theorem jM.mono{H H':Hp}{T:Addr}{qual:Str}{a:Pos}(x:jM H T qual a)(s:aQ H H'):jM H' T qual a:=s _ _ x
def Jy(K:PySem.W.Frag)(a T:Addr):Prop:=PySem.W.codeHdIn K a T=true
theorem qj{K:PySem.W.Frag}{mg:Str->Option Value}{base h:Heap}{T:Addr}{ps:Array Value}(M:Mod K mg base)(k:∀b o,base.get? b=some o->h.get? b=some o)(d:h.get? T=some (PySem.W.tabObj ps)):mainGlobals≠T/\h.BuiltinsAt mg T:=by
 obtain⟨bm,ob,b1,b2,b3,c,f,a⟩:=M.bm;obtain⟨o,es,ep,e,hd,_⟩:=M.glob;have e:=k _ _ e;have b3:=k _ _ b3;refine⟨λq=>?_,bm,ob,b1,b2,λq=>?_,λq=>?_,b3,c,f,a⟩;·rw[q,d]at e;cases e;cases hd
 ·rw[q,e]at b3;cases b3;rw[hd]at a;cases a
 ·rw[q,d]at b3;cases b3;cases c
noncomputable abbrev BE(X:Cx)(f:Addr)(fo:Obj):Cx:={X with pn:=(f,fo)::X.pn}
section
variable{X:Cx}{pins:List (Addr×Obj)}{σ:L2.St}{H:Hp}{s:Shared}{f:Addr}{fo:Obj}
theorem Ot{base:Heap}{pn b:List (Addr×Obj)}{A:Around}(h:HBp base pn A)(c:∀q∈pn,q∈b):HBp base b A:=by
 rcases h with h|⟨a,oe,vs,e1,e2,e3⟩;·exact .inl h
 ·exact .inr ⟨a,oe,vs,e1,e2.imp id (c _),e3⟩
theorem aaO(ok:X.Ok):(BE X f fo).Ok:=⟨ok.mod,ok.kind,ok.glob,ok.blt,ok.above,ok.inj,ok.has,ok.Ut,λh=>Ot (ok.hd h) λq hq=>eA _ hq,ok.frames,ok.YT,ok.Yg,ok.bs,ok.Ft,ok.zi,ok.Ct,ok.jF,ok.R3⟩
theorem aa7(I:Inv X pins σ H s)(e:s.heap.get? f=some fo)(b:H f=none)(c:f≠X.env.locals)(d:f∉X.fs)(g:∀v,fo.data≠ .cell v):Inv (BE X f fo) pins σ H s:=by
 refine⟨aaO I.ok,I.os,I.bare,I.base,I.loc,I.cell,I.free,I.fj,λp a=>?_,I.cj,I.len⟩;rcases List.mem_cons.mp (show p∈(f,fo)::(X.pn++pins)from a)with z|z;·rw[z];exact⟨e,b,c,d,g⟩
 ·exact I.pin p z
theorem yH(ok:X.Ok)(I:Inv (BE X f fo) pins σ H s):Inv X pins σ H s:=⟨ok,I.os,I.bare,I.base,I.loc,I.cell,I.free,I.fj,λp a=>I.pin p (eA _ a),I.cj,I.len⟩
theorem abv(ok:X.Ok){D:Ends}{fl:Flow}(h:SP (BE X f fo) pins D fl s):SP X pins D fl s:=by cases fl with|next=>obtain⟨a,H',I,q⟩:=h;exact⟨a,H',yH ok I,q⟩|brk=>obtain⟨a,H',I,q⟩:=h;exact⟨a,H',yH ok I,q⟩|cont=>obtain⟨a,H',I,q⟩:=h;exact⟨a,H',yH ok I,q⟩|ret u=>obtain⟨v,a,H',I,r,q⟩:=h;exact⟨v,a,H',yH ok I,r,q⟩
end
noncomputable abbrev o9(name qual:Str)(params:Arguments)(body:List Stmt)(scope:Scope)(cl:List (Str×Addr))(doc pm:Value)(c:Addr)(ct:Value):Obj:={cls:= .type "function",data:= .func (PySem.W.fnX name qual params body scope cl .none .none doc pm none (.ref c) ct)}
noncomputable def adJ(i:Nat)(T:Addr)(qual:Str)(a:Pos)(t:Addr->Addr->Value->Value->Value->TS):TS:=λD σ H=>jM H T qual a/\∀(f c:Addr)(doc pm ct:Value)(H':Hp),aQ H H'->H' c=some (jH qual)->t f c doc pm ct D (σ.set i (some (.ref f))) H'
theorem aaK{fs ex:List Addr}{H:Hp}{h h':Heap}{T c:Addr}{ps:Sl}{o:HO}(d:H T=some (.zf ps))(hc:H c=none)(f:h.objs.size<=c)(k:∀b u,b≠T->h.get? b=some u->h'.get? b=some u)(e:∃u,h'.get? T=some u):Un fs ex H (upd H c o) h h':=by
 have a:∀b,H b=none->b≠T:=λb n z=>by rw[z,d]at n;cases n
 refine⟨λb u q n _ _=>k b u (a b n) q,λb u q n _ _=>⟨u.slots,k b u (a b n) q⟩,λb u q n _=>?_,λb u q _=>?_,λb xs q=>?_,λb u xs q=>?_,λb g q=>?_⟩;·rw[aY (eN (gP (b_ q) f))];exact n
 ·by_cases z:b=T;·rw[z];exact e
  ·exact⟨u,k b u z q⟩
 all_goals rw[aY (aZ q hc)];exact q
theorem Ib{X:Cx}{i:Nat}{r T:Addr}{name qual:Str}{params:Arguments}{body:List Stmt}{scope:Scope}{g:Pos}{rest:List Stmt}{cl:List (Str×Addr)}{t:Addr->Addr->Value->Value->Value->TS}(Q:Jy X.K r T)(E:X.env.code= .ref r)(S:X.N.Nodup)(hi:X.N[i]?=some name)(M:X.env.scope.names.lookup name=some .local)(hq:qualnameIn X.env name name=qual)(C:closureFor scope X.env=pure cl)(hr:∀(f c:Addr)(doc pm ct:Value),iO (BE X f (o9 name qual params body scope cl doc pm c ct)) rest (t f c doc pm ct))(Y:params.defaults=[]:=by rfl)(hk0:params.kw_defaults=[]:=by rfl)(ha:annTrees params none X.env=[]:=by rfl):iO X (.FunctionDef name params body [] none [] scope none name g::rest) (adJ i T qual g t):=by
 intro pins s σ H D I h;obtain⟨l,h⟩:=h;have N:∀(f c:Addr)(doc pm ct:Value)(H':Hp)(s1:Shared),Inv X pins σ H' s1->s1.heap.get? f=some (o9 name qual params body scope cl doc pm c ct)->H' f=none->f≠X.env.locals->f∉X.fs->aQ H H'->H' c=some (jH qual)->wpAny (model X.prog X.w) X.A (storeName X.env name (.ref f)) (λ_ s2=>wpAny (model X.prog X.w) X.A (execs rest X.env) (SP X pins D) X.xe s2) X.xe s1:=λf c doc pm ct H' s1 k e1 e2 e3 R sx hc=>by have O:=aa7 (fo:=o9 name qual params body scope cl doc pm c ct) k e1 e2 e3 R (λv z=>by cases z);refine iT (X:=BE X f (o9 name qual params body scope cl doc pm c ct)) (i:=i) (v:= .ref f) O S hi (.inl M) rfl (λs2 P=>?_) (.inr M);exact gg (hr f c doc pm ct pins s2 _ H' D P (h f c doc pm ct H' sx hc)) (λfl s3 q=>abv I.ok q) λ_ _ z=>z
 have KX:=I.kK;have F:s.heap.Ns mainGlobals X.mg:=I.mod.glob.keeps I.bk;obtain⟨m,⟨oL,esL,epL,hoL,_⟩,_⟩:=id I.loc;have J:X.env.locals<s.heap.objs.size:=b_ hoL;have A:∀b:Addr,s.heap.objs.size<=b->b∉X.fs:=λb hb hm=>by obtain⟨_,o',ho,_⟩:=I.jF.mem hm;exact absurd (b_ ho) (Nat.not_lt.mpr hb)
 have hd:PySem.W.CodeHd s.heap r T:=PySem.W.codeHd_of_K KX Q;refine wpAny_execs_cons (PySem.W.nestDef_K Y hk0 ha ?_);rw[hq];rcases(show cK X.prog X.w H s.heap T (.zf (.tab qual (rawInt g.line) (rawInt g.col)))from I.cj T _ l)with d|⟨c,d,hc⟩
 ·have d:s.heap.get? T=some (PySem.W.tabObj #[]):=d;obtain⟨L,x⟩:=qj I.mod I.bk d;refine PySem.W.makeFunction_K C I.ok.glob F E hd d trivial rfl L x λa j doc h' tk hx1 y K aec U=>?_;have p:H a=none:=I.cj.fresh y;have G:∀b u,b≠T->s.heap.get? b=some u->(h'.push (PySem.W.fnMade name qual params body scope cl doc ((X.mg "__name__").getD .none) a j)).get? b=some u:=λb u n e=>cf _ (hx1 b u n e);have B:(h'.push (PySem.W.fnMade name qual params body scope cl doc ((X.mg "__name__").getD .none) a j)).get? T=some (PySem.W.tabObj (#[]++#[rawInt g.line,rawInt g.col, .ref a])):=cf _ U;have nTc:T≠a:=aZ l p;have W:=aec.push (PySem.W.fnMade name qual params body scope cl doc ((X.mg "__name__").getD .none) a j);have Tf:jS X.prog X.w (upd H a (jH qual)) (h'.push (PySem.W.fnMade name qual params body scope cl doc ((X.mg "__name__").getD .none) a j)):=λb u e=>by
   by_cases hb:b=a;·rw[hb,aj]at e;cases e;rw[hb];exact W
   ·rw[aY hb]at e;by_cases w:b=T;·rw[w,l]at e;cases e;rw[w];exact .inr ⟨a,B,aj⟩
    ·have nT2:∀c2,H c2=some (.own b)->c2≠T:=λc2 q z=>by rw[z,l]at q;cases q
     refine(I.cj b u e).xm (λc2 o V q=>G c2 o ?_ q) (λc2 q=>?_) λc2 xs q=>?_
     ·rcases V with rfl|q2;·exact w
      ·exact nT2 _ q2
     ·rw[aY (aZ q p)];exact q
     ·rw[aY (aZ q p)];exact q
  have k:=I.un (t':=tk) (aaK (o:=jH qual) l p y G ⟨_,B⟩) Tf;have hsz:s.heap.objs.size<=h'.objs.size:=dJ y (Nat.le_of_lt K);refine N h'.objs.size a _ _ _ _ _ k (gj _ rfl) ?_ (Nat.ne_of_gt (gP J hsz)) (A _ hsz) (λb o e=>?_) aj;·rw[aY (Nat.ne_of_gt K)];exact I.cj.fresh hsz
  ·rw[aY (aZ e p)];exact e
 ·have d:s.heap.get? T=some (PySem.W.tabObj #[rawInt g.line,rawInt g.col, .ref c]):=d;obtain⟨L,x⟩:=qj I.mod I.bk d;refine PySem.W.makeFunction_hit (cv:= .ref c) C I.ok.glob F E hd d ?_ ?_ x λj doc h' tk Z hsz=>?_;·simp[TriplesOk,rawInt]
  ·simp[codeAmong,rawInt]
  have k:=I.kept (h':=h'.push {cls:= .type "function",data:= .func (PySem.W.fnX name qual params body scope cl .none .none doc ((X.mg "__name__").getD .none) none (.ref c) j)}) (t':=tk) λb u e=>cf _ (Z b u e);exact N h'.objs.size c _ _ _ _ _ k (gj _ rfl) (I.cj.fresh hsz) (Nat.ne_of_gt (gP J hsz)) (A _ hsz) (λb o e=>e) hc
noncomputable def ml(P:Program)(w:World)(K:PySem.W.Frag)(mg:Str->Option Value)(CX:oX)(x:Str)(k:Nat)(ps:List Str)(sp:Heap->Sp):Prop:=∃f fd,(∀base,oD P w K mg base CX k f fd ps (sp base))/\mg x=some (.ref f)/\PySem.W.keepIn K (.ref f)=true/\Binds K fd ps []
section
variable{P:Program}{w:World}{K:PySem.W.Frag}{mg:Str->Option Value}
theorem Df.okB{x:Str}{st:Stmt}{N ps:List Str}{k:Nat}{sp:Heap->Sp}(D:Df K mg x st ps)(S:aT N ps (ar st))(len:∀base vs H Q E,sp base vs H Q E->vs.length=ps.length)(a:∀(base:Heap)(f:Addr)(cZ:Value)(A:Around)(outer:List Env)(s:Shared)(H:Hp)(vs:List V)(Q:VK)(E:XK),da k (A.deeper (envOfC x (ar st) s.heap.objs.size f cZ))->sp base vs H Q E->∃t,iO (fE bF P w K mg base N x (ar st) f cZ A outer s H E).Nc (cU st) t/\t {nx:=λ_ H'=>Q .a_ H',rt:=Q} (start N vs) H):ml P w K mg bF x (k+1) ps sp:=by obtain⟨f,fd,F,m,b⟩:=D;exact⟨f,fd,λbase=>F.ok S (len base) (a base f),m,F.kp,b⟩
theorem ml.never{x:Str}{st:Stmt}{ps:List Str}{sp:Heap->Sp}{k:Nat}{CX:oX}(D:Df K mg x st ps)(no:∀base vs H Q E,¬sp base vs H Q E):ml P w K mg CX x k ps sp:=by obtain⟨f,fd,F,m,b⟩:=D;exact⟨f,fd,λbase=>⟨λvs H Q E h=>absurd h (no base vs H Q E),λA outer s H args us vs Q E _ _ _ _ h=>absurd h (no base vs H Q E)⟩,m,F.kp,b⟩
end
structure Gh(X:Cx)(σ:L2.St)(b':Heap):Prop where
 old:∀b o,X.base.get? b=some o->b'.get? b=some o
 pin:∀q∈X.pn,b'.get? q.1=some q.2
 cell:∀(i:Nat)(x:Str)(v:V),X.N[i]?=some x->σ[i]?=some (some v)->X.env.kindOf x=some .cell->X.fn x=true->∃c u,X.env.cells.lookup x=some c/\RelV v u/\b'.IsCell c (some u)
theorem CQ{X:Cx}{pins:List (Addr×Obj)}{σ:L2.St}{H:Hp}{s:Shared}(I:Inv X pins σ H s):Gh X σ (zG s.heap H (jT X.stack)):=by
 have g:∀b o,X.base.get? b=some o->b∉jT X.stack:=λb o e z=>by
  rcases List.mem_cons.mp (I.gK b z)with z|z;·have :=b_ e;rw[z]at this;exact absurd this (Nat.not_lt.mpr (dJ I.ok.Ft I.ok.above))
  ·exact I.ok.Zd e z
 refine⟨λb o e=>j2 (I.bs b o e).1 (I.bs b o e).2 (g b o e),λq hq=>?_,λi x v h1 h2 h3 h4=>?_⟩
 ·obtain⟨q1,q2,q3,q4,_⟩:=I.pin q (oU _ hq);refine j2 q1 q2 λz=>?_;rcases List.mem_cons.mp (I.gK _ z)with z|z;·exact q3 z
  ·exact q4 z
 ·obtain⟨m,hn,hl⟩:=I.loc;obtain⟨u,r,l⟩:=hl i x v h1 h2 (.inr (.inl h3));rcases l with⟨a,_⟩|⟨_,c,hc,o,d,hd⟩;·rw[h3]at a;cases a
  ·refine⟨c,u,hc,r,o,j2 d (I.fj x c hc) λz=>?_,hd⟩;rcases List.mem_cons.mp (I.gK _ z)with z|z;·exact I.To x c hc z
   ·obtain⟨_,o',f,_⟩:=I.ok.jF.mem z;exact absurd (b_ f) (Nat.not_lt.mpr (I.ok.Ut x c h4 hc))
noncomputable def Xo(X:Cx)(sp:Heap->Sp)(E:XK)(t:TA):TE:=λσ H Q=>t σ H λvs a=>∀b',Gh X σ b'->sp b' vs a Q E
theorem NN{X:Cx}{CX:oX}{x:Str}{k:Nat}{ps:List Str}{sp:Heap->Sp}{E:XK}{e:Expr}{es:List Expr}{t:TA}{p d:Pos}(F:ml X.prog X.w X.K X.mg CX x k ps sp)(o:da k X.A)(l:Gl X x)(v:Passes CX X E)(ha:PA X (e::es) t)(i:(x==("__debug__":Str))=false:=by decide)(j:starEach (e::es) X.env=(false,eval e X.env)::starEach es X.env:=by rfl)(n:(backTo d (starEach es X.env)).any (·.1)=false:=by rfl)(hc:X.calm=true:=by rfl):PE X (.Call (.Name x p) (e::es) [] d) (Xo X sp E t):=by
 obtain⟨f,fd,F,m,kp,b⟩:=F;intro pins s σ H Q I h;refine wpAny_Call_Name_kw (jw I l m ?_ i);refine PySem.W.callWith_K (h₀:=X.base) I.ok.mod.Ly kp (b9 (ha d pins s σ H _ I h) λus s1⟨vs,c,a,r,q⟩=>⟨a.kK,?_⟩) j n;have q:=q _ (CQ a);have hl:us.length=ps.length:=by rw[<-r.length];exact(F (zG s1.heap c (jT X.stack))).len _ _ _ _ q
 have g:=b s1 us a.kK (by rw[lV];exact hl);rw[lV]at g;refine wpAny_call (codeAny_mono ((F _).run X.A X.stack s1 c ⟨us,[]⟩ us vs Q E o (Nn a hc) g r q) λw s' hq=>?_);cases w with|error e=>exact v pins σ c s1 e s' a hq|ok fl=>cases fl with|ret u=>exact a.after hq|next=>exact False.elim hq|brk=>exact False.elim hq|cont=>exact False.elim hq
noncomputable def oQ(P:Program)(w:World)(K:PySem.W.Frag)(mg:Str->Option Value)(base:Heap)(k:Nat)(f:Addr)(sp:Sp):Prop:=PySem.W.FnAt f base/\∀(a:Heap),(∀b o,base.get? b=some o->a.get? b=some o)->∀(A:Around)(outer:List Env)(s:Shared)(H:Hp)(us:List Value)(vs:List V)(Q:VK),da k A->Es P w K mg a A outer s H->Vals vs us->sp vs H Q E0->codeAny (model P w) A (.call (.ref f) ⟨us,[]⟩) (CR bF A.handled outer P w H s Q E0) s
theorem oQ.up{P:Program}{w:World}{K:PySem.W.Frag}{mg:Str->Option Value}{base a:Heap}{k:Nat}{f:Addr}{sp:Sp}(C:oQ P w K mg base k f sp)(c:∀b o,base.get? b=some o->a.get? b=some o):oQ P w K mg a k f sp:=⟨let⟨oc,od,fd,sl,e⟩:=C.1;⟨oc,od,fd,sl,c _ _ e⟩,λd h=>C.2 d λb o e=>h b o (c b o e)⟩
noncomputable def Z8(i:Nat)(f:Addr)(sp:Sp)(t:TA):TE:=λσ H Q=>σ[i]?=some (some (.ref f))/\t σ H λvs a=>sp vs a Q E0
theorem QO{X:Cx}{x:Str}{k i:Nat}{f:Addr}{sp:Sp}{e:Expr}{es:List Expr}{t:TA}{p b:Pos}(C:oQ X.prog X.w X.K X.mg X.base k f sp)(D:da k X.A)(n:X.N[i]?=some x)(F:Vis X.env.scope x)(ha:PA X (e::es) t)(w:(x==("__debug__":Str))=false:=by decide)(o:(x==("__classdict__":Str))=false:=by decide)(y:starEach (e::es) X.env=(false,eval e X.env)::starEach es X.env:=by rfl)(A:(backTo b (starEach es X.env)).any (·.1)=false:=by rfl)(hc:X.calm=true:=by rfl):PE X (.Call (.Name x p) (e::es) [] b) (Z8 i f sp t):=by intro pins s σ H Q I h;obtain⟨G,h⟩:=h;refine wpAny_Call_Name_kw (gg (Qi (X:=X) (i:=i) n F w o pins s σ H (λv H'=>v= .ref f/\H'=H) I ⟨.ref f,G,rfl,rfl⟩) (λu s0 E=>?_) λ_ _ z=>z);obtain⟨v,l,c,L,rfl,rfl⟩:=E;cases(show u=Value.ref f from L);have d:∀{g:List (Addr×Obj)}{j:L2.St}{H':Hp}{s':Shared},Inv X g j H' s'->PySem.W.FnAt f s'.heap:=λ{g j H' s'}J=>let⟨oc,od,fd,sl,e⟩:=C.1;⟨oc,od,fd,sl,(J.bs _ _ e).1⟩;refine PySem.W.callWith_F (d c) (b9 (ha b pins s0 σ l _ c h) λus s1⟨vs,m,a,r,q⟩=>⟨d a,?_⟩) y A;have B:=CQ a;refine wpAny_call (codeAny_mono (C.2 _ B.old X.A X.stack s1 m us vs Q D (Nn a hc) r q) λK s' hq=>?_);cases K with|error e=>exact hq.elim|ok fl=>cases fl with|ret u=>exact a.after hq|next=>exact False.elim hq|brk=>exact False.elim hq|cont=>exact False.elim hq
noncomputable abbrev Q0:=List (Addr×Addr×Sl)
structure TabsOk(K:PySem.W.Frag)(h:Heap)(ts:Q0):Prop where
 emp:∀q∈ts,h.get? q.2.1=some (PySem.W.tabObj #[])
 hd:∀q∈ts,PySem.W.codeHdIn K q.1 q.2.1=true
 out:∀q∈ts,K.lookup q.2.1=none
 tab:∀q∈ts,∃x l c,q.2.2= .tab x l c
noncomputable def Xc(K:PySem.W.Frag)(a:Addr)(o:Obj)(xs:List V)(ts:Q0):Hp:=λb=>if b=a/\K.lookup a=none then some (.Fs o (.lst xs))else((ts.map (·.2)).lookup b).map HO.zf
theorem TY{K:PySem.W.Frag}{h:Heap}{c T:Addr}(X:K.In h)(e:PySem.W.codeHdIn K c T=true):isCodeTable h T:=by obtain⟨o,vs,f,d,fl,tg,b,n,g,e1,e2,e3,a,_⟩:=PySem.W.codeHd_of_K X e;exact⟨c,o,vs,e1,e2,e3,a⟩
theorem E1{a:Type}:∀{l:List (Addr×a)}{x:Addr}{v:a},l.lookup x=some v->(x,v)∈l
 |[],_,_,h=>by simp at h
 |(y,w)::l,x,v,h=>by
  rw[nQ]at h;by_cases e:(x==y)=true;·rw[e]at h;have :=beq_iff_eq.mp e;subst this;cases h;exact eD
  ·rw[show(x==y)=false by simpa using e]at h;exact eA _ (E1 h)
theorem P0{ts:Q0}{b:Addr}{s:Sl}(e:(ts.map (·.2)).lookup b=some s):∃q∈ts,q.2.1=b/\q.2.2=s:=by have :=E1 e;obtain⟨q,hq,z⟩:=List.mem_map.mp this;exact⟨q,hq,by rw[z],by rw[z]⟩
theorem Lw{P:Program}{w:World}{K:PySem.W.Frag}{mg mb:Str->Option Value}{k:Nat}{fa a:Addr}{fd:FuncData}{x:Str}{sp:Sp}{f:Shared}{vs:List Value}{ns:List Int}{ts:Q0}(KX:K.In f.heap)(J:f.heap.Ns mainGlobals mg)(hb:f.heap.Ns builtinsNs mb)(C:∀x:Str,x≠"__name__"->mb x=bootBuiltins x)(I:f.heap.NoLimit)(E:BmK mg f.heap)(G:f.gens=#[])(ha:f.heap.get? a=some {cls:= .type "list",data:= .seq vs.toArray})(hi:IntsAre vs ns)(hl:ns.length<=sizeLine)(L:da k callerA)(T:TabsOk K f.heap ts)(F:∀base:Heap,oD P w K mg base bF k fa fd [x] sp)(D:∀(s:Shared)(u:Value),BindsTo s fd ⟨[u],[]⟩ [(x,u)])(M:∀H:Hp,(∀q∈ts,(ts.map (·.2)).lookup q.2.1=some q.2.2->H q.2.1=some (.zf q.2.2))->bE K H a (ns.map V.int)->sp [.ref a] H (λv _=>v= .bl true) E0):codeAny (model P w) callerA (.call (.ref fa) ⟨[.ref a],[]⟩) (λr s'=>r= .ok (.ret (.bool true))/\OldK f.heap s'.heap/\s'.os=f.os/\AllBare s'.gens) f:=by
 have t:=Aj hi;have N:=hi.length;let o:Obj:={cls:= .type "list",data:= .seq vs.toArray};let H:=Xc K a o (ns.map V.int) ts;have S:∀q∈ts,q.2.1≠a:=λq hq z=>by have :=T.emp q hq;rw[z,ha]at this;cases this
 have HT:∀q∈ts,(ts.map (·.2)).lookup q.2.1=some q.2.2->H q.2.1=some (.zf q.2.2):=λq hq e=>by show(if q.2.1=a/\K.lookup a=none then _ else _)=_;rw[if_neg λz=>S q hq z.1,e];rfl
 have only:∀b u,H b=some u->(b=a/\K.lookup a=none/\u= .Fs o (.lst (ns.map V.int)))\/∃q∈ts,q.2.1=b/\u= .zf q.2.2:=λb u e=>by
  have e:(if b=a/\K.lookup a=none then some (.Fs o (.lst (ns.map V.int)))else((ts.map (·.2)).lookup b).map HO.zf)=some u:=e;by_cases hb:b=a/\K.lookup a=none;·rw[if_pos hb]at e;exact .inl ⟨hb.1,hb.2,(Option.some.inj e).symm⟩
  ·rw[if_neg hb]at e;obtain⟨s,e1,e2⟩:=Option.map_eq_some_iff.mp e;obtain⟨q,hq,W,X⟩:=P0 e1;exact .inr ⟨q,hq,W,by rw[X,e2]⟩
 have objs:∀b u,H b=some u->(b=a)\/f.heap.get? b=some (PySem.W.tabObj #[]):=λb u e=>by
  rcases only b u e with⟨z,_⟩|⟨q,hq,z,_⟩;·exact .inl z
  ·exact .inr (by rw[<-z];exact T.emp q hq)
 have free:∀{b:Addr}{ob:Obj},f.heap.get? b=some ob->ob.data≠ .seq vs.toArray->ob.data≠ .fields #[]->H b=none:=λ{b ob}e Q R=>by
  cases q:H b with
   |none=>rfl
   |some u=>
    rcases objs b u q with z|z;·rw[z,ha]at e;cases e;exact absurd rfl Q
    ·rw[e]at z;cases z;exact absurd rfl R
 have n:∀{b:Addr}{m:Str->Option Value},f.heap.Ns b m->(CB f.heap H).Ns b m:=λ{b m}⟨ob,es,ep,e,d,r⟩=>⟨ob,es,ep,my e (free e (by rw[d];simp) (by rw[d];simp)),d,r⟩;have y:K.In (CB f.heap H):=λb ob e=>my (KX b ob e) (by
  cases q:H b with
   |none=>rfl
   |some u=>
    rcases only b u q with⟨z,Z,_⟩|⟨g,hq,z,_⟩;·rw[z,Z]at e;cases e
    ·rw[<-z,T.out g hq]at e;cases e);have cj:jS P w H f.heap:=λb u e=>by
  rcases only b u e with⟨z,_,rfl⟩|⟨q,hq,z,rfl⟩;·rw[z];exact⟨ha,by rw[cV];exact hl,vs,_,t,ha⟩
  ·obtain⟨Y,l,c,ex⟩:=T.tab q hq;rw[ex];exact .inl (by rw[<-z];exact T.emp q hq)
 have B:bE K H a (ns.map V.int):=by cases j:K.lookup a with|none=>refine .inl (.inr ⟨o,?_⟩);show(if a=a/\K.lookup a=none then _ else _)=_;rw[if_pos ⟨rfl,j⟩]|some ob=>have e:=KX a ob j;rw[ha]at e;cases e;exact .inr ⟨_,vs.toArray,_,j,rfl,rfl,rfl,by rw[c8,N];exact hl,by simpa using t⟩
 have A:Mod K mg (CB f.heap H):=⟨y,n J,⟨mb,n hb,C⟩,let⟨O,h1,h2⟩:=I;⟨O,n h1,h2⟩,let⟨bm,ob,e1,e2,e3,i⟩:=E;⟨bm,ob,e1,e2,my e3 (free e3 (by rw[i.2.2];simp) (by rw[i.2.2];simp)),i⟩⟩;have e0:Es P w K mg (CB f.heap H) callerA [] f H:=⟨rfl,A,λb ob e=>JI e,Nat.le_of_eq (zO _ _),trivial,λb hb=>absurd (show b∈([]:List Addr)from hb) (by simp),cj, .of_eq G, .inl rfl⟩;refine codeAny_mono ((F _).run callerA [] f H ⟨[.ref a],[]⟩ [.ref a] [.ref a] _ _ L e0 (D f (.ref a)) (.cons rfl .nil) (M H HT B)) λr s' h=>?_;cases r with
  |error e=>exact(show False from h).elim
  |ok fl=>
   cases fl with
    |next=>exact False.elim h
    |brk=>exact False.elim h
    |cont=>exact False.elim h
    |ret u=>
     obtain⟨v,H',os,bare,un,p,U,q⟩:=h;have g:v= .bl true:=q;subst g;obtain rfl:u=Value.bool true:=U;refine⟨rfl,⟨λb ob e=>?_,λb ob e=>un.there b ob e (by simp)⟩,os,bare⟩;cases q:H b with
      |none=>exact .inl (un.keep b ob e q (by intro z;exact absurd (show b∈([]:List Addr)from z) (by simp)) (by simp))
      |some u=>
       rcases only b u q with⟨z,_,rfl⟩|⟨g,hq,z,rfl⟩;·obtain⟨e2,_⟩:=p b _ (un.qR b o _ q);rw[z,ha]at e;cases e;exact .inl e2
       ·obtain⟨Y,l,c,ex⟩:=T.tab g hq;have em:=T.emp g hq;rw[z,e]at em;cases em;rw[ex]at q;rcases p b _ (un.qS b _ q)with e2|⟨c',e2,_⟩;·exact .inl e2
        ·exact .inr (.inl ⟨by rw[<-z];exact TY KX (T.hd g hq),rfl,#[],_,rfl,by rw[Array.empty_append];exact e2⟩)
theorem Rg{l:PySem.W.OpenLaw}{n k:Nat}{q:Program}{loose:List Str}{XP:(Str->Option Value)->Heap->Prop}{YP:World->Heap->Prop}{d:DefRec}{K:Params->PySem.W.Frag}{sp:World->Sp}{x:Str}{ts:Q0}(hn:l.most=some n)(p:n<=sizeLine)(j:d.params.defaults=[])(t:da k callerA)(i:∀(w:World)(h:Heap),YP w h->(K w.params).In h)(g:∀(w:World)(h:Heap),YP w h->TabsOk (K w.params) h ts)(F:∀(w:World)(mg:Str->Option Value)(fa:Addr)(h:Heap),(K w.params).In h->h.Ns mainGlobals mg->mg d.name=some (.ref fa)->∃fd:FuncData,(∀(s:Shared)(u:Value),BindsTo s fd ⟨[u],[]⟩ [(x,u)])/\∀base:Heap,oD l.prog w (K w.params) mg base bF k fa fd [x] (sp w))(y:∀(w:World)(H:Hp)(a:Addr)(ns:List Int),ns.length<=n->(∀q∈ts,(ts.map (·.2)).lookup q.2.1=some q.2.2->H q.2.1=some (.zf q.2.2))->bE (K w.params) H a (ns.map V.int)->sp w [.ref a] H (λv _=>v= .bl true) E0):PySem.W.WalkO q loose XP YP l.row.toRowW d [] (λf vs=>PySem.call f vs):=by refine Att.Fj hn j λw cD B mg mb fa o pm cd doc a vs ns G Y A hd z hmg r hints hlen m=>?_;have KX:=i w _ Y;obtain⟨fd,hb,b⟩:=F w mg fa _ KX G.T.g hmg;exact Lw KX G.T.g G.T.b G.T.builtins G.T.nolimit G.T.bmain m r hints (dJ hlen p) t (g w _ Y) b hb λH c e=>y w H a ns hlen c e
def Nst(K:PySem.W.Frag)(f T:Addr):Prop:=∃oc od fd DA a,K.lookup f=some ⟨oc,od, .func fd,DA⟩/\fd.code= .ref a/\Jy K a T
def YL(K:PySem.W.Frag)(mg:Str->Option Value)(x:Str)(st:Stmt)(ps:List Str)(T:Addr):Prop:=∃f fd,Wm K x x st f fd/\mg x=some (.ref f)/\Binds K fd ps []/\Nst K f T
theorem YL.ok{P:Program}{w:World}{K:PySem.W.Frag}{mg:Str->Option Value}{x:Str}{st:Stmt}{N ps:List Str}{k:Nat}{sp:Sp}{T:Addr}(D:YL K mg x st ps T)(S:aT N ps (ar st))(len:∀vs H Q E,sp vs H Q E->vs.length=ps.length)(e:∀(base:Heap)(f a:Addr)(A:Around)(outer:List Env)(s:Shared)(H:Hp)(vs:List V)(Q:VK)(E:XK),Jy K a T->da k (A.deeper (envOfC x (ar st) s.heap.objs.size f (.ref a)))->sp vs H Q E->∃t,iO (fE bF P w K mg base N x (ar st) f (.ref a) A outer s H E).Nc (cU st) t/\t {nx:=λ_ H'=>Q .a_ H',rt:=Q} (start N vs) H):bx P w K mg bF x (k+1) ps sp:=by obtain⟨f,fd,F,m,b,n⟩:=D;refine⟨f,fd,λbase=>?_,m,F.kp,b⟩;obtain⟨oc,od,kV,doc,pm,an,cZ,ct,DA,rfl,c,g⟩:=F.ex;obtain⟨p,r,o,u,a,d,hc,l⟩:=n;rw[c]at d;cases d;have hc:cZ= .ref a:=hc;subst hc;exact HN c g S len λA outer s H vs Q E i j=>let⟨t,h,q⟩:=e base f a A outer s H vs Q E l i j;⟨t,h.Nc,q⟩
theorem Rf{K:PySem.W.Frag}{mg:Str->Option Value}{h:Heap}{x:Str}{st:Stmt}{ps:List Str}{c T:Addr}(D:Df K mg x st ps)(X:K.In h)(G:h.Ns mainGlobals mg)(ht:PySem.W.tabIn K x=some (c,T))(hd:PySem.W.codeHdIn K c T=true):YL K mg x st ps T:=by obtain⟨f,fd,F,m,b⟩:=D;obtain⟨oc,od,kV,doc,pm,an,cZ,ct,DA,rfl,a,d⟩:=id F.ex;exact⟨f,_,F,m,b,oc,od,_,DA,c,a,PySem.W.law_code X G ht m (X _ _ a) rfl,hd⟩
noncomputable def O_(s:Stmt):Pos:=match s with| .FunctionDef _ _ _ _ _ _ _ _ _ p=>p|_=>⟨0,0,0,0⟩
noncomputable def Of(ps cs:List Str)(names:List (Str×NameKind)):Bool:=names.all (λy=>y.2 != .cell&&(y.2 != .free||cs.contains y.1))&&ps.all (λx=>names.lookup x==some .local)&&cs.all (λx=>names.lookup x==some .free)&&decide (ps++cs).Nodup
theorem pF{ps cs:List Str}{scope:Scope}(h1:scope.kind= .function)(h2:scope.isCoroutine=false)(h3:scope.isGenerator=false)(h:Of ps cs scope.names=true):iI ps cs scope:=by
 unfold Of at h;simp only[cW,List.all_eq_true,decide_eq_true_eq]at h;obtain⟨⟨⟨a,b⟩,c⟩,d⟩:=h;refine⟨h1,h2,h3,λy g=>?_,λx f=>?_,d,λx f=>?_,λx e=>?_⟩;·simpa using(a y g).1
 ·simpa using b x f
 ·simpa using c x f
 ·have :=(a _ (PySem.mem_of_lookup e)).2;simpa using this
theorem Oj{cl:List (Str×Addr)}(nd:(cl.map (·.2)).Nodup):∀x y a,cl.lookup x=some a->cl.lookup y=some a->x=y:=λx y a h1 h2=>by have c:=PySem.mem_of_lookup h1;have d:=PySem.mem_of_lookup h2;obtain⟨i,hi,e1⟩:=List.mem_iff_getElem.mp c;obtain⟨j,b,e2⟩:=List.mem_iff_getElem.mp d;have :i=j:=(List.getElem_inj (i:=i) (j:=j) (h₀:=by simpa using hi) (h₁:=by simpa using b) nd).mp (by rw[List.getElem_map,List.getElem_map,e1,e2]);subst this;rw[e1]at e2;exact(Prod.mk.inj e2).1
theorem Q1{X:Cx}{σ:L2.St}{b':Heap}{f c:Addr}{name qual:Str}{params:Arguments}{body:List Stmt}{scope:Scope}{cl:List (Str×Addr)}{doc pm ct:Value}{cs:List Str}{ws:List V}(B:Gh (BE X f (o9 name qual params body scope cl doc pm c ct)) σ b')(k:cl.map (·.1)=cs)(l:(cl.map (·.2)).Nodup)(hl:ws.length=cs.length)(h:∀(i:Nat)(x:Str),cs[i]?=some x->∃(j:Nat)(v:V),ws[i]?=some v/\X.N[j]?=some x/\σ[j]?=some (some v)/\X.env.kindOf x=some .cell/\X.fn x=true/\cl.lookup x=X.env.cells.lookup x):xM b' f c name qual params body scope cs ws cl doc pm ct:=by
 refine⟨B.pin (f,o9 name qual params body scope cl doc pm c ct) eD,Oj l,λx a e=>?_,λi x e=>?_,hl⟩;·rw[<-k];exact List.mem_map.mpr ⟨_,PySem.mem_of_lookup e,rfl⟩
 ·obtain⟨j,v,e1,e2,e3,b,d,g⟩:=h i x e;obtain⟨a,u,m,n,o⟩:=B.cell j x v e2 e3 b d;exact⟨v,a,u,e1,by rw[g];exact m,n,o⟩
theorem Jg{P:Program}{w:World}{K:PySem.W.Frag}{mg:Str->Option Value}{base:Heap}{k:Nat}{ps cs:List Str}{name qual:Str}{params:Arguments}{body:List Stmt}{scope:Scope}{f c:Addr}{cl:List (Str×Addr)}{doc pm ct:Value}{ws:List V}{sp:Sp}(S:iI ps cs scope)(C:xM base f c name qual params body scope cs ws cl doc pm ct)(hb:∀us:List Value,us.length=ps.length->bindArgs (PySem.W.fnX name qual params body scope cl .none .none doc pm none (.ref c) ct) ⟨us,[]⟩=pure (ps.zip us))(g:∀vs H Q,sp vs H Q E0->vs.length=ps.length/\H c=some (jH qual))(b:∀(a:Heap)(A:Around)(outer:List Env)(s:Shared)(H:Hp)(vs:List V)(Q:VK),da k (A.deeper (l9 qual scope s.heap.objs.size f c cl))->sp vs H Q E0->∃t,iO (Dv bF P w K mg a (ps++cs) qual scope f c cl A outer s H E0) body t/\t {nx:=λ_ H'=>Q .a_ H',rt:=Q} (vs.map some++ws.map some) H):oQ P w K mg base (k+1) f sp:=by refine⟨⟨_,_,_,_,C.fo⟩,λa up A outer s H us vs Q d e0 r h=>?_⟩;obtain⟨hl,hc⟩:=g vs H Q h;exact TR S e0 d (C.keeps up) hc hl r (.of_eq (hb us (by rw[<-r.length];exact hl))) λe=>b a A outer s H vs Q e h
noncomputable def XS(base:Heap)(sp:Heap->Sp)(E:XK)(t:TA):TE:=λσ H Q=>t σ H λvs a=>∀b',(∀b o,base.get? b=some o->b'.get? b=some o)->sp b' vs a Q E
theorem Xd{X:Cx}{base:Heap}{CX:oX}{x:Str}{k:Nat}{ps:List Str}{sp:Heap->Sp}{E:XK}{e:Expr}{es:List Expr}{t:TA}{p d:Pos}(F:ml X.prog X.w X.K X.mg CX x k ps sp)(v:da k X.A)(n:Gl X x)(w:Passes CX X E)(ha:PA X (e::es) t)(j:(x==("__debug__":Str))=false:=by decide)(l:starEach (e::es) X.env=(false,eval e X.env)::starEach es X.env:=by rfl)(o:(backTo d (starEach es X.env)).any (·.1)=false:=by rfl)(hc:X.calm=true:=by rfl)(i:X.base=base:=by rfl):PE X (.Call (.Name x p) (e::es) [] d) (XS base sp E t):=by
 subst i;obtain⟨f,fd,F,m,kp,b⟩:=F;intro pins s σ H Q I h;refine wpAny_Call_Name_kw (jw I n m ?_ j);refine PySem.W.callWith_K (h₀:=X.base) I.ok.mod.Ly kp (b9 (ha d pins s σ H _ I h) λus s1⟨vs,c,a,r,q⟩=>⟨a.kK,?_⟩) l o;have q:=q _ (CQ a).old;have hl:us.length=ps.length:=by rw[<-r.length];exact(F (zG s1.heap c (jT X.stack))).len _ _ _ _ q
 have g:=b s1 us a.kK (by rw[lV];exact hl);rw[lV]at g;refine wpAny_call (codeAny_mono ((F _).run X.A X.stack s1 c ⟨us,[]⟩ us vs Q E v (Nn a hc) g r q) λy s' hq=>?_);cases y with|error e=>exact w pins σ c s1 e s' a hq|ok fl=>cases fl with|ret u=>exact a.after hq|next=>exact False.elim hq|brk=>exact False.elim hq|cont=>exact False.elim hq
theorem YL.R_{P:Program}{w:World}{K:PySem.W.Frag}{mg:Str->Option Value}{x:Str}{st:Stmt}{N ps:List Str}{k:Nat}{sp:Sp}{T:Addr}(D:YL K mg x st ps T)(S:aT N ps (ar st))(len:∀vs H Q E,sp vs H Q E->vs.length=ps.length)(e:∀(base:Heap)(f a:Addr)(A:Around)(outer:List Env)(s:Shared)(H:Hp)(vs:List V)(Q:VK)(E:XK),Jy K a T->da k (A.deeper (envOfC x (ar st) s.heap.objs.size f (.ref a)))->sp vs H Q E->∃t,iO (fE (f9 P w) P w K mg base N x (ar st) f (.ref a) A outer s H E) (cU st) t/\t {nx:=λ_ H'=>Q .a_ H',rt:=Q} (start N vs) H):bx P w K mg (f9 P w) x (k+1) ps sp:=by obtain⟨f,fd,F,m,b,n⟩:=D;refine⟨f,fd,λbase=>?_,m,F.kp,b⟩;obtain⟨oc,od,kV,doc,pm,an,cZ,ct,DA,rfl,c,g⟩:=F.ex;obtain⟨o,p,l,q,a,d,hc,j⟩:=n;rw[c]at d;cases d;have hc:cZ= .ref a:=hc;subst hc;exact HN c g S len λA outer s H vs Q E h i=>e base f a A outer s H vs Q E j h i
theorem XO{X:Cx}{f:Addr}{fo:Obj}(hf:∀vs,fo.data≠ .fields vs)(ok:(BE X f fo).Ok):X.Ok:=⟨ok.mod,ok.kind,ok.glob,ok.blt,ok.above,ok.inj,ok.has,ok.Ut,λh=>by
 rcases ok.hd h with h|⟨a,oe,vs,e1,e2,e3⟩;·exact .inl h
 ·refine .inr ⟨a,oe,vs,e1,?_,e3⟩;rcases e2 with e2|e2;·exact .inl e2
  ·rcases List.mem_cons.mp e2 with z|z;·cases z;exact absurd e3.1 (hf vs)
   ·exact .inr z,ok.frames,ok.YT,ok.Yg,ok.bs,ok.Ft,ok.zi,ok.Ct,ok.jF,ok.R3⟩
theorem Mz{CX:oX}{X:Cx}{f:Addr}{fo:Obj}{E:XK}(h:Passes CX X E)(hf:∀vs,fo.data≠ .fields vs):Passes CX (BE X f fo) E:=λpins σ H s e s' I hc=>h pins σ H s e s' (yH (XO hf I.ok) I) hc
end L3
end
section
namespace K24
open PySem L2 L3 KM PyProof.Rows
seal L2.PE L2.PS L2.iO L2.PT L2.PW L2.PA L2.PG L2.Bu L2.PI L2.PC L2.PO L2.AY L2.PK L3.A8 L3.PH L3.PB
variable{P:Program}{w:World}{K:PySem.W.Frag}{mg:Str->Option Value}{base:Heap}{t:xV}
def OM(g:Int->Int->D)(Pre:Hp->Prop):Sp:=λvs H Q _=>∃n b:Int,vs=[.int n, .int b]/\0<=n/\0<=b/\Pre H/\∀(v:V)(H':Hp),aQ H H'->Rep H' (g n b) v->Q v H'
structure Chg(P:Program)(w:World)(K:PySem.W.Frag)(mg:Str->Option Value)(base:Heap)(kc:Nat)(f:Addr)(g:Int->Int->D)(Pre:Hp->Prop):Prop where
 cal:oQ P w K mg base kc f (OM g Pre)
 st:∀H H',Pre H->aQ H H'->Pre H'
noncomputable def qW(x:Str)(i:Nat):Int:=if decide (V.int i=EE x)=true then 1 else 0
theorem lU(x:Str)(i:Nat):0<=qW x i:=by unfold qW;split<;>decide
theorem Se(x:Str)(i:Nat):mm x i= .int (qW x i):=by unfold mm qW;split<;>rfl
noncomputable def ma(g:Int->Int->D):Nat->Int->D->D|n+1,b, .tup (.str x::ps)=>if x="var"then(match ps with|[.int i]=>if b<=i then g (i-b) b else .tup (.str x::ps)|_=> .tup (.str x::ps))else cE x ps ((List.range (aB x ps).length).map λi=>ma g n (b+qW x i) (((aB x ps)[i]?).getD .a_))|_,_,d=>d
def O2(P:Program)(w:World)(K:PySem.W.Frag)(mg:Str->Option Value)(kc n:Nat)(base:Heap):Sp:=λvs H Q _=>∃(d:D)(v:V)(b:Int)(f:Addr)(g:Int->Int->D)(Pre:Hp->Prop),vs=[v, .int b, .ref f]/\Rep H d v/\Wf d/\depth d<n/\0<=b/\Pre H/\Chg P w K mg base kc f g Pre/\∀(u:V)(H':Hp),aQ H H'->Rep H' (ma g n b d) u->Q u H'
theorem mz:aT ["thing","binders","change","kids"] ["thing","binders","change"] (ar eO):=⟨rfl,rfl,rfl,by decide+kernel,rfl,by decide+kernel,by decide+kernel⟩
theorem Ba{kc n:Nat}(D:Df K mg "with_free" eO ["thing","binders","change"])(M:Mg mg t)(cb:bx P w K mg bF "kids_of" (1) ["thing"] fZ)(ji:bx P w K mg bF "binds_of" (1) ["thing"] By)(d6:bx P w K mg bF "rebuilt" (1) ["thing","kids"] iH)(fH:ml P w K mg bF "with_free" (n+kc+3) ["thing","binders","change"] (O2 P w K mg kc n)):ml P w K mg bF "with_free" (n+kc+4) ["thing","binders","change"] (O2 P w K mg kc (n+1)):=by
 refine D.okB mz (λbase vs H Q E h=>?_) (λbase f cZ A outer s H vs Q E o h=>?_);·obtain⟨d,v,b,U,g,Pre,rfl,_⟩:=h;rfl
 obtain⟨d,v,b,U,g,Pre,rfl,r,wfd,hd,hb,Z,C,q⟩:=h;have W:=C.cal;obtain⟨x,ps,k,rfl,wf,Ha⟩:=jK wfd;have hk4:=J_ wf;obtain⟨a,M3,rfl,ha,v0,M3,rfl,⟨rfl,hx⟩,rp⟩:=id r;have ea:lX (V.str x::M3) 0=some (.str x):=aL (j:=0) rfl;refine⟨_,(ah (bf (aA bQ (aS aU (pv 0) ai (λ_ _=>rfl)) aq (aR _)) (ak (aw (jU (aA Vv (aS aU (pv 0) ai (λ_ _=>rfl)) (pv 1) (aR _)) (QO (i:=2) W o.m rfl (by first|exact Or.inl rfl|exact Or.inr (Or.inl rfl)|exact Or.inr (Or.inr rfl)) (ae (aJ bH (aS aU (pv 0) ai (λ_ _=>rfl)) (pv 1)) (ae (pv 1) ag))) (pv 0)))) aK) (ah (BK (ix:=3) (N':=["kid","bound","change","binders"]) (own:=2) (fr:=[2,1]) mz.nd rfl rfl rfl (j8 (N:=["thing","binders","change","kids"]) (sc:=ar eO) rfl rfl rfl (by decide+kernel)) (SD rfl M.adm (ae (aI cb o.m rfl aM (ae (pv 0) ag)) (ae (aI ji o.m rfl aM (ae (pv 0) ag)) ag))) (NR (n:=2) (by decide) (by decide)) (λ_ _ _=>(yn (n:=2) rfl (d4 (bJ (i:=0) (show List.Nodup (["kid","bound","change","binders"]:List Str)by decide+kernel) rfl (Or.inl rfl)) (d4 (bJ (i:=1) (show List.Nodup (["kid","bound","change","binders"]:List Str)by decide+kernel) rfl (Or.inl rfl)) m7)))) (λ_ _ _=>nA) (λ_ _ _=>(Xd (base:=base) fH o.m rfl aM (ae (pv 0) (ae (aJ bT (pv 3) (pv 1)) (ae (pv 2) ag)))))) (ak (aw (aI d6 o.m rfl aM (ae (pv 0) (ae (pv 3) ag))))))),?_⟩;try dsimp only[gV,cP]
 refine zu ?_;intro _ _ _;refine⟨_,rfl,a,_,_,_,rfl,rfl,bU.of ha,ea,rfl,_,rfl,?_⟩;refine ba (λc=>?_) (λc=>?_)
 ·have c:V.str x=V.str "var":=of_decide_eq_true c;cases c;obtain⟨sh,e1,_,e3,_,I,_⟩:=bO wf;rw[eT]at e1;cases e1;rw[yO]at e3 I;obtain⟨m,rfl⟩:∃m,ps=[m]:=by cases ps with|nil=>simp at I|cons m rest=>cases rest with|nil=>exact⟨m,rfl⟩|cons _ _=>simp at I
  rw[aP,cW]at e3;have hn:iD m=true:=by simpa[dv]using e3.1
  obtain⟨i,rfl⟩:∃i,m= .int i:=by cases m<;>first|exact⟨_,rfl⟩|simp[iD]at hn
  obtain⟨u1,mj,rfl,F,_⟩:=rp;cases(show u1=V.int i from F);have h0:0<=i:=by simpa[iD]using hn
  have e:ma g (n+1) b (.tup [.str "var", .int i])=if b<=i then g (i-b) b else .tup [.str "var", .int i]:=by rw[ma,if_pos rfl]
  rw[e]at q;refine⟨_,rfl,a,_,_, .int i,rfl,rfl,bU.of ha,aL (j:=1) rfl,_,rfl,_,_,rfl,rfl,_,rfl,?_⟩;refine ba (λc=>?_) (λc=>?_);·have c:b<=i:=of_decide_eq_true c;rw[if_pos c]at q;exact⟨rfl,_,rfl,a,_,_, .int i,rfl,rfl,bU.of ha,aL (j:=1) rfl,_,rfl,_,_,rfl,rfl,_,rfl,i-b,b,rfl,by lia,hb,Z,q⟩
  ·have c:¬b<=i:=of_decide_eq_false (Bool.eq_false_iff.mpr c);rw[if_neg c]at q;exact⟨_,rfl,q _ H (aQ.refl H) r⟩
 have hv:x≠"var":=λz=>c (by rw[z];exact decide_eq_true rfl);have e:ma g (n+1) b (.tup (.str x::ps))=cE x ps ((List.range (aB x ps).length).map λi=>ma g n (b+qW x i) (((aB x ps)[i]?).getD .a_)):=by
  conv=>lhs;unfold ma
  exact if_neg hv
 rw[e]at q;refine⟨_,rfl,x,ps,_,rfl,r,Ha,λp1 us H1 _ s1 h1 F=>⟨_,rfl,x,ps,_,k,rfl,r.mono s1,wf,λp2 H2 s2 h2=>⟨p1,p2,us,_,rfl,bE.of (s2 _ _ h1),bE.of h2,λp3 Yn=>?_⟩⟩⟩;have l1:=F.length;have O:=s1.trans s2;have J:=s2 _ _ h1;refine LJ (aB x ps).length (λi=>ma g n (b+qW x i) (((aB x ps)[i]?).getD .a_)) Yn (dJ hk4 (by decide)) (λi H3 hi l=>?_) λacc H3 l h3 r3=>⟨⟨us,_,bE.of (l _ _ J),bE.of (l _ _ h2),by lia⟩,?_⟩
 ·obtain⟨G,L⟩:∃G,(aB x ps)[i]?=some G:=⟨_,dD hi⟩;obtain⟨S,Y6,rui⟩:=F.get L;have Y:(Gd x (aB x ps).length)[i]?=some (.int (qW x i)):=by unfold Gd;rw[jP,List.getElem?_range hi];show some (mm x i)=_;rw[Se]
  refine⟨⟨us,_,S,_,bE.of (l _ _ J),bE.of (l _ _ h2),Y6,Y⟩,?_⟩;rintro y T⟨p,x',y',rfl,hpn,rfl,hy⟩R X;obtain⟨y1,y2⟩:=hy us _ (bE.of (l _ _ J)) (bE.of (l _ _ h2));rw[Y6]at y1;rw[Y]at y2;cases y1;cases y2;have B:=ao hpn (.tup [S, .int (qW x i)]);obtain⟨w1,w2⟩:=jJ wf L;rw[L]at X;have sa:=O.trans (l.trans B);refine⟨p,_,rfl,bU.of aj,rfl,_,_,rfl,_,_,rfl,rfl,?_⟩;exact⟨_,rfl,_,rfl,_,rfl,_,_,rfl,rfl,_,rfl,λb' up=>⟨G,S,b+qW x i,U,g,Pre,rfl,rui.mono (s2.trans (l.trans B)),w1,by lia,by have :=lU x i;lia,C.st _ _ Z sa,⟨W.up up,C.st⟩,λu H5 s5 r5=>X u H5 (B.trans s5) r5⟩⟩
 ·refine⟨_,rfl,_,rfl,x,ps,_,_,p3,acc,rfl,r.mono (O.trans l),h3,r3,by rw[cV,List.length_range];lia,λu T B r4=>q u T (O.trans (l.trans B)) r4⟩
theorem j1{kc:Nat}(D:Df K mg "with_free" eO ["thing","binders","change"])(M:Mg mg t)(c:bx P w K mg bF "kids_of" (1) ["thing"] fZ)(a:bx P w K mg bF "binds_of" (1) ["thing"] By)(e:bx P w K mg bF "rebuilt" (1) ["thing","kids"] iH):∀n:Nat,ml P w K mg bF "with_free" (n+kc+3) ["thing","binders","change"] (O2 P w K mg kc n)|0=>ml.never D λbase vs H Q E⟨d,v,b,f,g,Pre,_,_,_,h,_⟩=>absurd h (Nat.not_lt_zero _)|n+1=>by have :=Ba (kc:=kc) D M c a e (j1 D M c a e n);rwa[show n+1+kc+3=n+kc+4 by lia]
noncomputable abbrev jL:Stmt:=(cU kD).getD 0 (.Pass ⟨0,0,0,0⟩)
theorem pb:iI ["number","binders"] ["low","by"] (ar jL):=pF rfl rfl rfl (by decide+kernel)
noncomputable def xw(a low:Int)(n b:Int):D:= .tup [.str "var", .int (n+b+(if low<=n then a else 0))]
noncomputable def Dh:Str:="raised.<locals>.change"
noncomputable def Fg:Pos:=O_ jL
def D6(T:Addr)(n:Nat):Sp:=λvs H Q _=>∃(d:D)(v:V)(a low:Int),vs=[v, .int a, .int low]/\Rep H d v/\Wf d/\depth d<n/\jM H T Dh Fg/\∀(u:V)(H':Hp),aQ H H'->Rep H' (ma (xw a low) n 0 d) u->Q u H'
theorem z9:aT ["thing","by","low","change"] ["thing","by","low"] (ar kD):=⟨rfl,rfl,rfl,by decide+kernel,rfl,by decide+kernel,by decide+kernel⟩
theorem P5{n:Nat}{T:Addr}(D:YL K mg "raised" kD ["thing","by","low"] T)(M:Mg mg t)(o:ml P w K mg bF "with_free" (n+1+3) ["thing","binders","change"] (O2 P w K mg 1 n)):bx P w K mg bF "raised" (n+5) ["thing","by","low"] (D6 T n):=by
 refine D.ok z9 (λvs H Q E h=>?_) (λbase f O A outer s H vs Q E I m h=>?_);·obtain⟨d,v,a,low,rfl,_⟩:=h;rfl
 obtain⟨d,v,a,low,rfl,r,L,hd,F,q⟩:=h;refine⟨_,(Ib (i:=3) (qual:=Dh) I rfl z9.nd rfl rfl rfl rfl (λj c doc pm ct=>(ak (aw (NN o m.m rfl aM (ae (pv 0) (ae ai (ae (pv 3) ag)))))))),?_⟩;try dsimp only[gV,R]
 refine⟨F,λj c doc pm ct y s1 hc=>?_⟩;refine⟨v,rfl,_,rfl,λb' B=>?_⟩;refine⟨d,v,0,j,xw a low,λH'=>H' c=some (jH Dh),rfl,r.mono s1,L,hd,Int.le_refl 0,hc,⟨?_,λy g h s=>s _ _ h⟩,λu g s2 J=>q u g (s1.trans s2) J⟩;have C:=Q1 (cs:=["low","by"]) (ws:=[.int low, .int a]) B rfl (by simp) rfl λi x e=>by match i,e with|0,e=>cases e;exact⟨2,_,rfl,rfl,rfl,rfl,rfl,rfl⟩|1,e=>cases e;exact⟨1,_,rfl,rfl,rfl,rfl,rfl,rfl⟩|i+2,e=>simp at e
 refine Jg (k:=0) pb C (λus hl=>match us,hl with|[_,_],_=>rfl) (λvs H Q⟨n,b,e,_,_,h,_⟩=>⟨by rw[e];rfl,h⟩) λN A outer s H vs Q m h=>?_;obtain⟨n,b,rfl,S,hb,_,q⟩:=h;refine⟨_,(ak (aw (aE (ae aq (ae (aJ bT (aJ bT (pv 0) (pv 1)) (jU (aA Vv (pv 0) (pv 2) (aR _)) (pv 3) ai)) ag))))),?_⟩;refine⟨_,rfl,_,rfl,_,_,rfl,rfl,_,rfl,_,rfl,_,_,rfl,rfl,_,rfl,?_⟩;have fin:∀z:Int,z=(if low<=n then a else 0)->∀p,H p=none->Q (.ref p) (upd H p (.tup [.str "var", .int (n+b+z)])):=λz G p l=>by refine q _ _ (ao l _) ?_;rw[G];exact dQ l (rs gY (rs ri r0))
 refine ba (λc=>?_) (λc=>?_);·have c:low<=n:=of_decide_eq_true c;exact⟨_,rfl,_,_,rfl,rfl,(c7 rfl),fin a (by rw[if_pos c])⟩
 ·have c:¬low<=n:=of_decide_eq_false (Bool.eq_false_iff.mpr c);exact⟨_,_,rfl,rfl,(c7 rfl),fin 0 (by rw[if_neg c])⟩
theorem DD{x:Str}{ps:List D}{k:Bool}(wf:bu ay k (.tup (.str x::ps))=true)(f:Nat->D)(b:∀(i:Nat)(p:D)(c:Nat),(aB x ps)[i]?=some p->dv ay c p=true->(c=107\/c=116)->dv ay c (f i)=true):bu ay k (cE x ps ((List.range (aB x ps).length).map f))=true:=by
 unfold cE;by_cases hq:(List.range (aB x ps).length).map f=[];·rw[if_pos hq];exact wf
 rw[if_neg hq];obtain⟨r,h1,h2,h3,h4,h5,h6,m,_⟩:=bO wf;have d:dX x=false:=by cases e:dX x with|false=>rfl|true=>exact absurd (by unfold aB;rw[if_pos e];rfl) hq
 have l:aB x ps=ps:=by unfold aB;rw[d];rfl
 refine c_ h1 h2 ?_;rw[l]at b⊢;have o:∀(cs:List Nat)(a:List D)(j:Nat),eh ay cs a=true->(∀c∈cs,c=107\/c=116)->(∀(i:Nat)(p:D)(c:Nat),a[i]?=some p->dv ay c p=true->(c=107\/c=116)->dv ay c (f (j+i))=true)->eh ay cs ((List.range' j a.length).map f)=true:=λcs=>by
  induction cs with
   |nil=>intro a j h _ _;cases a with|nil=>exact h|cons _ _=>simp[eh]at h
   |cons c cs n=>intro a j h hc hf;cases a with|nil=>simp[eh]at h|cons q a=>rw[aP,cW]at h;rw[bS,List.range'_succ,ff,aP,cW];refine⟨by have :=hf 0 q c rfl h.1 (hc c eD);rwa[Nat.add_zero]at this,n a (j+1) h.2 (λc h=>hc c (eA _ h)) λi p g e1 e2 e3=>?_⟩;have :=hf (i+1) p g (by simpa using e1) e2 e3;rwa[show j+1+i=j+(i+1)by lia]
 have :=o r.cps.toList ps 0 h3 (λc hc=>m d c hc) λi p c e1 e2 e3=>by rw[Nat.zero_add];exact b i p c e1 e2 e3
 rwa[<-List.range_eq_range']at this
theorem OC{x:Str}{ps:List D}{k:Bool}(wf:bu ay k (.tup (.str x::ps))=true)(f:Nat->D)(b:∀(i:Nat)(p:D),(aB x ps)[i]?=some p->aG (f i)=aG p/\depth (f i)=depth p):aG (cE x ps ((List.range (aB x ps).length).map f))=aG (.tup (.str x::ps))/\depth (cE x ps ((List.range (aB x ps).length).map f))=depth (.tup (.str x::ps)):=by
 unfold cE;by_cases hq:(List.range (aB x ps).length).map f=[];·rw[if_pos hq];exact⟨rfl,rfl⟩
 rw[if_neg hq];have l:dX x=false:=by cases e:dX x with|false=>rfl|true=>exact absurd (by unfold aB;rw[if_pos e];rfl) hq
 have c:aB x ps=ps:=by unfold aB;rw[l];rfl
 rw[c]at b⊢;have g:∀(a:List D)(j:Nat),(∀(i:Nat)(p:D),a[i]?=some p->aG (f (j+i))=aG p/\depth (f (j+i))=depth p)->aO ((List.range' j a.length).map f)=aO a/\aN ((List.range' j a.length).map f)=aN a:=λa=>by
  induction a with
   |nil=>intro _ _;exact⟨rfl,rfl⟩
   |cons q a d=>
    intro j h;obtain⟨a1,a2⟩:=d (j+1) λi p e=>by have :=h (i+1) p (by simpa using e);rwa[show j+1+i=j+(i+1)by lia]
    obtain⟨b1,b2⟩:=h 0 q rfl;rw[Nat.add_zero]at b1 b2;rw[bS,List.range'_succ,ff,aO,aN,aO,aN,a1,a2,b1,b2];exact⟨rfl,rfl⟩
 have :=g ps 0 λi p e=>by rw[Nat.zero_add];exact b i p e
 rw[<-List.range_eq_range']at this;simp only[aG,aO,depth,aN];rw[this.1,this.2];exact⟨rfl,rfl⟩
theorem JB{k:Bool}{ps:List D}(wf:bu ay k (.tup (.str "var"::ps))=true):∃i:Int,ps=[.int i]/\0<=i/\k=false:=by
 obtain⟨c,e1,e2,e3,_,b,_⟩:=bO wf;rw[eT]at e1;cases e1;rw[yO]at e3 b;obtain⟨a,rfl⟩:∃a,ps=[a]:=by cases ps with|nil=>simp at b|cons a rest=>cases rest with|nil=>exact⟨a,rfl⟩|cons _ _=>simp at b
 rw[aP,cW]at e3;have hn:iD a=true:=by simpa[dv]using e3.1
 obtain⟨i,rfl⟩:∃i,a= .int i:=by cases a<;>first|exact⟨_,rfl⟩|simp[iD]at hn
 exact⟨i,rfl,by simpa[iD]using hn,by rw[<-e2];exact xq⟩
theorem JP{z:Int}(h:0<=z):bu ay false (.tup [.str "var", .int z])=true:=by refine c_ eT xq ?_;rw[yO,aP];simp[dv,iD,h,eh]
theorem Ob{c:Nat}{p:D}(h:dv ay c p=true)(hc:c=107\/c=116):∃k,bu ay k p=true/\∀q,bu ay k q=true->dv ay c q=true:=by
 rcases hc with rfl|rfl;·exact⟨true,h,λq hq=>hq⟩
 ·exact⟨false,h,λq hq=>hq⟩
theorem oP{a low:Int}(g:0<=a):∀(n:Nat)(b:Int)(d:D)(k:Bool),0<=b->depth d<n->bu ay k d=true->bu ay k (ma (xw a low) n b d)=true/\aG (ma (xw a low) n b d)=aG d/\depth (ma (xw a low) n b d)=depth d
 |0,_,_,_,_,h,_=>absurd h (Nat.not_lt_zero _)
 |n+1,b,d,k,hb,hd,wf=>by
  obtain⟨x,ps,rfl⟩:=cG wf;by_cases j:x="var"
  ·subst j;obtain⟨i,rfl,hi,rfl⟩:=JB wf;have e:ma (xw a low) (n+1) b (.tup [.str "var", .int i])=if b<=i then xw a low (i-b) b else .tup [.str "var", .int i]:=by rw[ma,if_pos rfl]
   rw[e];split;·unfold xw;refine⟨JP ?_,by simp[aG,aO],by simp[depth,aN]⟩;split<;>lia
   ·exact⟨wf,rfl,rfl⟩
  ·have e:ma (xw a low) (n+1) b (.tup (.str x::ps))=cE x ps ((List.range (aB x ps).length).map λi=>ma (xw a low) n (b+qW x i) (((aB x ps)[i]?).getD .a_)):=by
    conv=>lhs;unfold ma
    exact if_neg j
   rw[e];refine⟨DD wf _ λi p c e1 e2 e3=>?_,OC wf _ λi p e1=>?_⟩;·obtain⟨w1,w2⟩:=jJ wf e1;obtain⟨f,h1,h2⟩:=Ob e2 e3;rw[e1];exact h2 _ (oP g n (b+qW x i) p f (by have :=lU x i;lia) (by lia) h1).1
   ·obtain⟨⟨f,w1⟩,w2⟩:=jJ wf e1;rw[e1];exact(oP g n (b+qW x i) p f (by have :=lU x i;lia) (by lia) w1).2
noncomputable abbrev jO:Stmt:=(cU j5).getD 0 (.Pass ⟨0,0,0,0⟩)
theorem ph:iI ["number","binders"] ["other","at"] (ar jO):=pF rfl rfl rfl (by decide+kernel)
noncomputable def lR(o:D)(at_:Int)(n b:Int):D:=if n=at_ then ma (xw b 0) 58 0 o else .tup [.str "var", .int (n+b-(if at_<n then 1 else 0))]
noncomputable def AD:Str:="put_in.<locals>.change"
noncomputable def Ar:Pos:=O_ jO
noncomputable abbrev AU(o:D)(at_:Int)(d:D):D:=ma (lR o at_) 58 0 d
noncomputable abbrev fY(d:D):Bool:=dz d||eM d
structure adK(H:Hp)(T1 T2:Addr)(at_:Int)(d o:D)(v u:V):Prop where
 r:Rep H d v
 ro:Rep H o u
 wf:Wf d
 wfo:Wf o
 dp:depth d<58
 dpo:depth o<58
 rz:Rz (AU o at_ d) 100
 t1:jM H T1 Dh Fg
 t2:jM H T2 AD Ar
def Kj(C T1 T2:Addr):Sp:=λvs H Q E=>∃(d o:D)(v u:V)(at_:Int),vs=[v,u, .int at_]/\adK H T1 T2 at_ d o v u/\(∀(z:V)(H':Hp),aQ H H'->fY (AU o at_ d)=false->Rep H' (AU o at_ d) z->Q z H')/\(∀H',aQ H H'->fY (AU o at_ d)=true->E (.ref C) none H')
theorem AF:aT ["thing","other","at","change"] ["thing","other","at"] (ar j5):=⟨rfl,rfl,rfl,by decide+kernel,rfl,by decide+kernel,by decide+kernel⟩
theorem NL{T1 T2:Addr}(D:YL K mg "put_in" j5 ["thing","other","at"] T2)(M:Mg mg t)(G:bx P w K mg bF "raised" (63) ["thing","by","low"] (D6 T1 58))(J:ml P w K mg bF "with_free" (58+64+3) ["thing","binders","change"] (O2 P w K mg 64 58))(F:bx P w K mg (f9 P w) "bounded" (104) ["thing"] (oK t.cu 100)):bx P w K mg (f9 P w) "put_in" (126) ["thing","other","at"] (Kj t.cu T1 T2):=by
 refine D.R_ AF (λvs H Q E h=>?_) (λbase f X A outer s H vs Q E T a h=>?_);·obtain⟨d,o,v,u,at_,rfl,_⟩:=h;rfl
 obtain⟨d,o,v,u,at_,rfl,I,q,U⟩:=h;refine⟨_,(Ib (i:=3) (qual:=AD) T rfl AF.nd rfl rfl rfl rfl (λm c doc pm ct=>(ak (aw (aI F a.m rfl (Mz dG (λ_ z=>nomatch z)) (ae (NN J a.m rfl aM (ae (pv 0) (ae ai (ae (pv 3) ag)))) ag)))))),?_⟩;try dsimp only[gV,Y]
 refine⟨I.t2,λm c doc pm ct L s1 hc=>?_⟩;refine⟨v,rfl,_,rfl,λb' B=>?_⟩;refine⟨d,v,0,m,lR o at_,λH'=>H' c=some (jH AD)/\Rep H' o u/\jM H' T1 Dh Fg,rfl,I.r.mono s1,I.wf,I.dp,Int.le_refl 0,⟨hc,I.ro.mono s1,I.t1.mono s1⟩,⟨?_,λL N h s=>⟨s _ _ h.1,h.2.1.mono s,h.2.2.mono s⟩⟩,λz N s2 y=>?_⟩;rotate_left;·exact⟨_,z,rfl,y,I.rz,λj g l=>q z j (s1.trans (s2.trans g)) l (y.mono g),λj g l=>U j (s1.trans (s2.trans g)) l⟩
 have C:=Q1 (cs:=["other","at"]) (ws:=[u, .int at_]) B rfl (by simp) rfl λi x e=>by match i,e with|0,e=>cases e;exact⟨1,_,rfl,rfl,rfl,rfl,rfl,rfl⟩|1,e=>cases e;exact⟨2,_,rfl,rfl,rfl,rfl,rfl,rfl⟩|i+2,e=>simp at e
 refine Jg (k:=63) ph C (λus hl=>match us,hl with|[_,_],_=>rfl) (λvs H Q⟨n,b,e,_,_,h,_⟩=>⟨by rw[e];rfl,h.1⟩) λW A outer s H vs Q a h=>?_;obtain⟨n,b,rfl,Z,hb,⟨_,R,O⟩,q⟩:=h;refine⟨_,(ah (bf (aA bQ (pv 0) (pv 3) (aR _)) (ak (aw (aI G a.m rfl aM (ae (pv 2) (ae (pv 1) (ae ai ag)))))) aK) (ak (aw (aE (ae aq (ae (aJ bH (aJ bT (pv 0) (pv 1)) (jU (aA lJ (pv 0) (pv 3) (aR _)) ai ai)) ag)))))),?_⟩;unfold lR at q;refine⟨_,rfl,_,rfl,rfl,_,rfl,?_⟩;refine ba (λc=>?_) (λc=>?_)
 ·have c:n=at_:=by have :V.int n=V.int at_:=of_decide_eq_true c;injection this
  rw[if_pos c]at q;exact⟨_,rfl,_,rfl,o,u,b,0,rfl,R,I.wfo,I.dpo,O,q⟩
 have c:¬n=at_:=λz=>c (by rw[z];exact decide_eq_true rfl);rw[if_neg c]at q;refine⟨_,rfl,_,rfl,_,_,rfl,rfl,_,rfl,_,rfl,_,_,rfl,rfl,_,rfl,?_⟩;have fin:∀z:Int,z=(if at_<n then 1 else 0)->∀p,H p=none->Q (.ref p) (upd H p (.tup [.str "var", .int (n+b-z)])):=λz S p r=>by refine q _ _ (ao r _) ?_;rw[S];exact dQ r (rs gY (rs ri r0))
 refine ba (λc=>?_) (λc=>?_);·have c:at_<n:=of_decide_eq_true c;exact⟨_,_,rfl,rfl,(c7 rfl),fin 1 (by rw[if_pos c])⟩
 ·have c:¬at_<n:=of_decide_eq_false (Bool.eq_false_iff.mpr c);exact⟨_,_,rfl,rfl,(c7 rfl),fin 0 (by rw[if_neg c])⟩
end K24
end
section
namespace L3
open PySem PySem.Spec PyProof.Rows L2 KM
noncomputable def Sy(K:PySem.W.Frag):R2:=λx y H Q=>∃p q xs b,x= .ref p/\y= .ref q/\bE K H p xs/\bE K H q b/\(∀z∈xs,∃a,z=V.ref a)/\((xs=b/\Q (.bl false) H)\/(xs.length≠b.length/\Q (.bl true) H))
theorem M9{X:Cx}(F:X.A.units+1<cLine):ke X (compareOp .NotEq) (Sy X.K):=by
 intro pins s σ H x y v u Q I C D h;obtain⟨p,q,xs,J,rfl,rfl,t,w,r,h⟩:=h;cases C;cases D;obtain⟨c,k,f,_⟩:=I.list t;obtain⟨d,l,g,_⟩:=I.list w;have z:=k.length;have G:=l.length;rcases h with⟨rfl,h⟩|⟨E,h⟩
 ·refine SeqAt.RcNeAt.lists f.isList g.isList (e:=λ_=>true) (by simp;lia) (by lia) (λj h1 h2=>?_) _ _ _ _ ⟨.bl false,H,I,?_,h⟩
  ·have b:j<xs.length:=by simpa[z]using h1
   obtain⟨m,e1,k1⟩:=k.get (i:=j) (x:=xs[j]) (by simp[b]);obtain⟨n,e2,k2⟩:=l.get (i:=j) (x:=xs[j]) (by simp[b]);obtain⟨a,o⟩:=r xs[j] (List.getElem_mem b);rw[o]at k1 k2;have A:c.toArray[j]=m:=by
    have :c[j]?=some c.toArray[j]:=by simp
    rw[e1]at this;exact(Option.some.inj this).symm
   have B:d.toArray[j]=n:=by
    have :d[j]?=some d.toArray[j]:=by simp
    rw[e2]at this;exact(Option.some.inj this).symm
   rw[A,B,show m=Value.ref a from k1,show n=Value.ref a from k2];exact SeqAt.EqAt.same _
  ·show Value.bool _=Value.bool false;congr 1;simp
 ·exact SeqAt.RcNeAt.lists_lengths f.isList g.isList (by simp;lia) (by lia) _ _ _ _ ⟨.bl true,H,I,rfl,h⟩
end L3
end
section
namespace L3
open PySem
end L3
end
section
namespace L3
open PySem PySem.Builtin PySem.Builtin.Str PySem.StrLaws
noncomputable def brk(c:Nat):Bool:=c==32||c==10||c==40||c==41
end L3
end
section
namespace L3
open PySem PySem.Spec PyProof.Rows L2 KM
section
variable{X:Cx}
variable{e:Expr}{es:List Expr}{te:TE}{st:Stmt}{rest:List Stmt}{t u:TS}{pos:Pos}
end
structure afk(P:Program)(w:World)(K:PySem.W.Frag)(mg:Str->Option Value)(base:Heap)(CX:oX)(k:Nat)(f:Addr)(fd:FuncData)(ps:List Str)(sp:Sp):Prop where
 len:∀vs H Q E,sp vs H Q E->vs.length=ps.length
 run:∀(A:Around)(outer:List Env)(s:Shared)(H:Hp)(args:Args)(us:List Value)(vs:List V)(Q:VK)(E:XK),0<s.toks->da k A->Es P w K mg base A outer s H->BindsTo s fd args (ps.zip us)->Vals vs us->sp vs H Q E->codeAny (model P w) A (.call (.ref f) args) (CR CX A.handled outer P w H s Q E) s
section
variable{X:Cx}
end
end L3
end
section
namespace L3
open PySem PySem.Spec PyProof.Rows L2
section
variable{prog:Program}{w:World}{A:Around}{E:Value->Shared->Prop}{s:Shared}
end
noncomputable def YJ(K:PySem.W.Frag):R2:=λx y H Q=>∃p q xs,x= .ref p/\y= .ref q/\bE K H p xs/\bE K H q []/\Q (.bl (decide (xs=[]))) H
theorem Di{X:Cx}(o:X.A.units+1<cLine):ke X (compareOp .Eq) (YJ X.K):=by
 intro pins s σ H x y v u Q I m n h;obtain⟨p,q,xs,rfl,rfl,g,i,h⟩:=h;cases m;cases n;obtain⟨r,k,d,_⟩:=I.list g;obtain⟨b,l,f,_⟩:=I.list i;have t:=k.length;have c:=l.length;have c:b.length=0:=c.symm;by_cases a:xs=[]
 ·rw[decide_eq_true a]at h;subst a;refine SeqAt.eq_listAt d.isList f.isList (e:=λ_=>true) (by simp;lia) (by lia) (λj h1 h2=>?_) ⟨.bl true,H,I,?_,h⟩
  ·have :j<b.length:=by simpa using h2
   lia
  ·show Value.bool _=Value.bool true;congr 1;simp
 ·rw[decide_eq_false a]at h;have :xs.length≠0:=λz=>a (List.length_eq_zero_iff.mp z);exact SeqAt.RcAt.lists_lengths d.isList f.isList (by simp;lia) (by lia) _ _ _ _ ⟨.bl false,H,I,rfl,h⟩
end L3
end
section
namespace K24
open PySem L2 L3 KM PyProof.Rows
seal L2.PE L2.PS L2.iO L2.PT L2.PW L2.PA L2.PG L2.Bu L2.PI L2.PC L2.PO L2.AY L2.PK L3.A8 L3.PH L3.PB
variable{P:Program}{w:World}{K:PySem.W.Frag}{mg:Str->Option Value}{base:Heap}{t:xV}
end K24
end
section
namespace K24
open PySem L2 L3 KM PyProof.Rows
noncomputable def yt(at_:Int):Nat->Int->D->Nat|n+1,b, .tup (.str x::ps)=>if x="var"then(match ps with|[.int i]=>if i=at_+b then 1 else 0|_=>0)else((List.range (aB x ps).length).map λi=>yt at_ n (b+qW x i) (((aB x ps)[i]?).getD .a_)).sum|_,_,_=>0
theorem LK{x:Str}{ps:List D}{k:Bool}(wf:bu ay k (.tup (.str x::ps))=true)(f:Nat->D):aG (cE x ps ((List.range (aB x ps).length).map f))=1+((List.range (aB x ps).length).map λi=>aG (f i)).sum/\depth (cE x ps ((List.range (aB x ps).length).map f))=1+jE ((List.range (aB x ps).length).map λi=>depth (f i)):=by
 unfold cE;by_cases hq:(List.range (aB x ps).length).map f=[]
 ·rw[if_pos hq];have hl:(aB x ps).length=0:=by have :=congrArg List.length hq;rw[cV,List.length_range]at this;exact this
  obtain⟨e1,e2⟩:=jg wf;rw[e1,e2,hl,List.length_eq_zero_iff.mp hl];exact⟨rfl,rfl⟩
 ·rw[if_neg hq];have e1:aG (.tup (.str x::(List.range (aB x ps).length).map f))=1+aO ((List.range (aB x ps).length).map f):=by simp[aG,aO]
  have e2:depth (.tup (.str x::(List.range (aB x ps).length).map f))=1+aN ((List.range (aB x ps).length).map f):=by simp[depth,aN]
  rw[e1,e2,l7,lL,List.map_map,List.map_map];exact⟨rfl,rfl⟩
theorem FN{x:Str}{ps:List D}{k:Bool}(wf:bu ay k (.tup (.str x::ps))=true):aG (.tup (.str x::ps))=1+((List.range (aB x ps).length).map λi=>aG (((aB x ps)[i]?).getD .a_)).sum/\depth (.tup (.str x::ps))=1+jE ((List.range (aB x ps).length).map λi=>depth (((aB x ps)[i]?).getD .a_)):=by
 obtain⟨e1,e2⟩:=jg wf;rw[e1,e2];have a:∀(l:List D)(g:D->Nat),l.map g=(List.range l.length).map λi=>g ((l[i]?).getD .a_):=λl g=>by
  refine List.ext_getElem (by simp) λi h1 h2=>?_;have hi:i<l.length:=by simpa using h1
  simp[dD hi]
 rw[a _ aG,a _ depth];exact⟨rfl,rfl⟩
theorem Kq(A B C:Nat->Nat)(m:Nat):∀l:List Nat,(∀i∈l,A i+C i=B i+C i*m)->(l.map A).sum+(l.map C).sum=(l.map B).sum+(l.map C).sum*m|[],_=>by simp|i::l,h=>by have a:=Kq A B C m l λj c=>h j (eA _ c);have b:=h i eD;simp only[ff,List.sum_cons,Nat.add_mul];lia
theorem JJ(A B:Nat->Nat):∀l:List Nat,(∀i∈l,A i<=B i)->(l.map A).sum<=(l.map B).sum|[],_=>by simp|i::l,h=>by have a:=JJ A B l λj c=>h j (eA _ c);have b:=h i eD;simp only[ff,List.sum_cons];lia
theorem Io(A B:Nat->Nat)(m:Nat):∀l:List Nat,(∀i∈l,A i<=B i+m)->jE (l.map A)<=jE (l.map B)+m|[],_=>by simp[jE]|i::l,h=>by have a:=Io A B m l λj c=>h j (eA _ c);have b:=h i eD;simp only[ff,jE];lia
theorem gv{o:D}{at_:Int}(l:0<=at_)(j:bu ay false o=true)(g:depth o<58):∀(n:Nat)(b:Int)(d:D)(k:Bool),0<=b->depth d<n->bu ay k d=true->bu ay k (ma (lR o at_) n b d)=true/\aG (ma (lR o at_) n b d)+yt at_ n b d=aG d+yt at_ n b d*aG o/\depth (ma (lR o at_) n b d)<=depth d+depth o/\yt at_ n b d<=aG d
 |0,_,_,_,_,h,_=>absurd h (Nat.not_lt_zero _)
 |n+1,b,d,k,hb,hd,wf=>by
  obtain⟨x,ps,rfl⟩:=cG wf;by_cases q:x="var"
  ·subst q;obtain⟨i,rfl,hi,rfl⟩:=JB wf;have e:ma (lR o at_) (n+1) b (.tup [.str "var", .int i])=if b<=i then lR o at_ (i-b) b else .tup [.str "var", .int i]:=by rw[ma,if_pos rfl]
   have m:yt at_ (n+1) b (.tup [.str "var", .int i])=if i=at_+b then 1 else 0:=by rw[yt,if_pos rfl]
   have k1:∀z:Int,aG (.tup [.str "var", .int z])=1/\depth (.tup [.str "var", .int z])=1:=λz=>⟨by simp[aG,aO],by simp[depth,aN]⟩;rw[e,m,(k1 i).1,(k1 i).2];by_cases c:b<=i
   ·rw[if_pos c];unfold lR;by_cases c2:i-b=at_;·rw[if_pos c2,if_pos (show i=at_+b by lia)];obtain⟨a1,a2,a3⟩:=oP (low:=0) hb 58 0 o false (Int.le_refl 0) g j;rw[a2,a3];exact⟨a1,by lia,by lia,bN _⟩
    ·rw[if_neg c2,if_neg (show¬i=at_+b by lia),(k1 _).1,(k1 _).2];refine⟨JP ?_,by lia,by lia,fW _⟩;split<;>lia
   ·rw[if_neg c,if_neg (show¬i=at_+b by lia),(k1 _).1,(k1 _).2];exact⟨wf,by lia,by lia,fW _⟩
  ·have e:ma (lR o at_) (n+1) b (.tup (.str x::ps))=cE x ps ((List.range (aB x ps).length).map λi=>ma (lR o at_) n (b+qW x i) (((aB x ps)[i]?).getD .a_)):=by
    conv=>lhs;unfold ma
    exact if_neg q
   have m:yt at_ (n+1) b (.tup (.str x::ps))=((List.range (aB x ps).length).map λi=>yt at_ n (b+qW x i) (((aB x ps)[i]?).getD .a_)).sum:=by
    conv=>lhs;unfold yt
    exact if_neg q
   rw[e,m];have each:∀(i:Nat),i∈List.range (aB x ps).length->∃p a,(aB x ps)[i]?=some p/\depth p<depth (.tup (.str x::ps))/\bu ay a p=true:=λi hi=>by obtain⟨p,f⟩:∃p,(aB x ps)[i]?=some p:=⟨_,dD (List.mem_range.mp hi)⟩;obtain⟨⟨a,w1⟩,w2⟩:=jJ wf f;exact⟨p,a,f,w2,w1⟩
   obtain⟨q1,q2⟩:=FN wf;obtain⟨r,s⟩:=LK wf λi=>ma (lR o at_) n (b+qW x i) (((aB x ps)[i]?).getD .a_);rw[r,s,q1,q2];refine⟨DD wf _ λi p c e1 e2 e3=>?_,?_,?_,?_⟩;·obtain⟨w1,w2⟩:=jJ wf e1;obtain⟨a,h1,h2⟩:=Ob e2 e3;rw[e1];exact h2 _ (gv l j g n (b+qW x i) p a (by have :=lU x i;lia) (by lia) h1).1
   ·have :=Kq (λi=>aG (ma (lR o at_) n (b+qW x i) (((aB x ps)[i]?).getD .a_))) (λi=>aG (((aB x ps)[i]?).getD .a_)) (λi=>yt at_ n (b+qW x i) (((aB x ps)[i]?).getD .a_)) (aG o) (List.range (aB x ps).length) λi hi=>by obtain⟨p,a,f,w2,w1⟩:=each i hi;simp only[f,Option.getD_some];exact(gv l j g n (b+qW x i) p a (by have :=lU x i;lia) (by lia) w1).2.1
    lia
   ·have :=Io (λi=>depth (ma (lR o at_) n (b+qW x i) (((aB x ps)[i]?).getD .a_))) (λi=>depth (((aB x ps)[i]?).getD .a_)) (depth o) (List.range (aB x ps).length) λi hi=>by obtain⟨p,a,f,w2,w1⟩:=each i hi;simp only[f,Option.getD_some];exact(gv l j g n (b+qW x i) p a (by have :=lU x i;lia) (by lia) w1).2.2.1
    lia
   ·have :=JJ (λi=>yt at_ n (b+qW x i) (((aB x ps)[i]?).getD .a_)) (λi=>aG (((aB x ps)[i]?).getD .a_)) (List.range (aB x ps).length) λi hi=>by obtain⟨p,a,f,w2,w1⟩:=each i hi;simp only[f,Option.getD_some];exact(gv l j g n (b+qW x i) p a (by have :=lU x i;lia) (by lia) w1).2.2.2
    lia
end K24
end
section
namespace K24
open PySem L2 L3 KM PyProof.Rows
seal L2.PE L2.PS L2.iO L2.PT L2.PW L2.PA L2.PG L2.Bu L2.PI L2.PC L2.PO L2.AY L2.PK L3.A8 L3.PH L3.PB
variable{P:Program}{w:World}{K:PySem.W.Frag}{mg:Str->Option Value}{base:Heap}{t:xV}
theorem mJ(pl:List Nat):Sa (AQ pl)=plD pl:=by unfold Sa AQ plD;rw[List.map_map];rfl
inductive Jo(B:Str->D):D->Str->D->Bool->Prop|fn{k bd o:D}:Wf bd->Wf o->depth bd<58->depth o<58->Rz (AU o 0 bd) 100->Jo B (.tup [.str "app", .tup [.str "fun",k,bd],o]) "fun" (AU o 0 bd) (fY (AU o 0 bd))|zero{k b s n:D}:Jo B (.tup [.str "rec",k,b,s,n]) "zero" b false|aaa{k x l:D}:Jo B (.tup [.str "carry",k,x,l]) "like" x false|next{k b s n:D}:Jo B (.tup [.str "rec",k,b,s, .tup [.str "next",n]]) "next" (.tup [.str "app", .tup [.str "app",s,n], .tup [.str "rec",k,b,s,n]]) false|first{k a b:D}:Jo B (.tup [.str "first", .tup [.str "pair",k,a,b]]) "first" a false|second{k a b:D}:Jo B (.tup [.str "second", .tup [.str "pair",k,a,b]]) "second" b false|name{y:Str}:Jo B (.tup [.str "name", .str y]) "name" (B y) false
def RP(H:Hp)(aF:List (Key×V))(B:Str->D):Prop:=∀y:Str,eE aF y=true->∃(q:Addr)(b a:V),fh aF (Sum.inr y:Key)=some (.ref q)/\H q=some (.tup [b,a])/\Rep H (B y) a
theorem RP.mono{H H':Hp}{aF:List (Key×V)}{B:Str->D}(h:RP H aF B)(s:aQ H H'):RP H' aF B:=λy d=>let⟨q,e,f,a,b,c⟩:=h y d;⟨q,e,f,a,s _ _ b,c.mono s⟩
theorem Af{inb:Str->Bool}{y:Str}(h:cI inb (.tup [.str "name", .str y])= .str "name"):inb y=true:=by cases e:inb y with|true=>rfl|false=>simp[cI,fe,Jp,e]at h
structure JZ(H:Hp)(T1 T2:Addr):Prop where
 t1:jM H T1 Dh Fg
 t2:jM H T2 AD Ar
theorem JZ.mono{H H':Hp}{T1 T2:Addr}(h:JZ H T1 T2)(s:aQ H H'):JZ H' T1 T2:=⟨h.t1.mono s,h.t2.mono s⟩
def zP:Sp:=λvs H Q _=>∃(k b s n:D)(v:V),vs=[v]/\Rep H (.tup [.str "rec",k,b,s, .tup [.str "next",n]]) v/\∀(z:V)(H':Hp),aQ H H'->Rep H' (.tup [.str "app", .tup [.str "app",s,n], .tup [.str "rec",k,b,s,n]]) z->Q z H'
theorem lD:aT ["thing","number"] ["thing"] (ar gp):=⟨rfl,rfl,rfl,by decide+kernel,rfl,by decide+kernel,by decide+kernel⟩
theorem AR(D:Df K mg "after_next" gp ["thing"])(M:Mg mg t):bx P w K mg bF "after_next" (1) ["thing"] zP:=by
 refine D.ok lD (λvs H Q E h=>?_) (λbase f cZ A outer s H vs Q E W h=>?_);·obtain⟨k,b,s,n,v,rfl,_⟩:=h;rfl
 obtain⟨k,b,s,n,v,rfl,N,q⟩:=h;refine⟨_,(ah (aH (i:=1) lD.nd rfl (cq rfl) (aS aU (aS aU (pv 0) ai (λ_ _=>rfl)) ai (λ_ _=>rfl))) (ak (aw (aE (ae aq (ae (aE (ae aq (ae (aS aU (pv 0) ai (λ_ _=>rfl)) (ae (pv 1) ag)))) (ae (aJ vK (cg Js (pv 0) bI (bZ ai)) (aE (ae (pv 1) ag))) ag))))))),?_⟩;try dsimp only[gV,U]
 refine qM ?_;intro _ _;obtain⟨a,us,rfl,ha,v0,us,rfl,⟨rfl,B⟩,v1,us,rfl,I,v2,us,rfl,J,l,us,rfl,p,X,us,rfl,L,g⟩:=N;cases(show us=[]from g);obtain⟨c,ws,rfl,hc,w0,ws,rfl,⟨rfl,_⟩,w1,ws,rfl,r,g⟩:=id L;cases(show ws=[]from g);refine⟨_,rfl,a,_,_,_,rfl,rfl,bU.of ha,aL (j:=4) rfl,c,_,_,_,rfl,rfl,bU.of hc,aL (j:=1) rfl,?_⟩;refine⟨_,rfl,a,_,_,_,rfl,rfl,bU.of ha,aL (j:=3) rfl,_,rfl,(c7 rfl),λe m=>?_⟩;have s1:=ao m (.tup [V.str "app",l,w1]);have u:Rep (upd H e (.tup [V.str "app",l,w1])) (.tup [.str "app",s,n]) (.ref e):=dQ m (rs gY (rs p (rs r r0)));generalize upd H e (.tup [V.str "app",l,w1])=R at s1 u⊢;refine⟨_,rfl,_,rfl,a,_,rfl,s1 _ _ ha,λC S s2 h2=>?_⟩;rw[show(4:Int)=((4:Nat):Int)from rfl,vq]at h2;refine⟨_,rfl,(c7 rfl),λF z=>?_⟩;have y:=ao z (.tup [w1]);refine⟨C,F,_,_,rfl,rfl,y _ _ h2,aj,(by rw[sizeLine_eq];show 4+1<=16777216;decide),λG T O h4=>⟨(c7 rfl),λp5 o=>?_⟩⟩;have x:=s2.trans (y.trans O);have d:=s1.trans x;refine q _ _ (d.trans (ao o _)) (dQ o (rs gY (rs (u.mono x) (rs ⟨G,_,rfl,h4,?_⟩ r0))));exact rs ⟨rfl,B⟩ (rs (I.mono d) (rs (J.mono d) (rs (p.mono d) (rs (r.mono d) r0))))
def HQ(G T1 T2:Addr):Sp:=λvs H Q E=>∃(B:Str->D)(e e':D)(v:V)(r:Str)(b:Addr)(aF:List (Key×V))(g:Bool),vs=[v, .str r, .ref b]/\Rep H e v/\Jo B e r e' g/\JZ H T1 T2/\H b=some (.dK aF)/\RP H aF B/\cI (eE aF) e= .str r/\(∀(z:V)(H':Hp),aQ H H'->g=false->Rep H' e' z->Q z H')/\(∀H',aQ H H'->g=true->E (.ref G) none H')
theorem zr:aT ["thing","rule","book"] ["thing","rule","book"] (ar gu):=⟨rfl,rfl,rfl,by decide+kernel,rfl,by decide+kernel,by decide+kernel⟩
theorem CD{T1 T2:Addr}(D:Df K mg "after_rule" gu ["thing","rule","book"])(M:Mg mg t)(C:bx P w K mg (f9 P w) "put_in" (126) ["thing","other","at"] (Kj t.cu T1 T2))(x:bx P w K mg bF "after_next" (1) ["thing"] zP):bx P w K mg (f9 P w) "after_rule" (127) ["thing","rule","book"] (HQ t.cu T1 T2):=by
 refine D.R_ zr (λvs H Q E h=>?_) (λbase f cZ A outer s H vs Q E n h=>?_);·obtain⟨B,e,e',v,r,b,aF,g,rfl,_⟩:=h;rfl
 obtain⟨B,e,e',v,r,b,aF,g,rfl,k,ha,o,hb,I,J,q,N⟩:=h;have L:=ql n;refine⟨_,(ah (bf (aA bQ (pv 1) aq (aR _)) (ak (aw (aI C n.m rfl dG (ae (aS aU (aS aU (pv 0) ai (λ_ _=>rfl)) ai (λ_ _=>rfl)) (ae (aS aU (pv 0) ai (λ_ _=>rfl)) (ae ai ag)))))) aK) (ah (bf (aA bQ (pv 1) aq (aR _)) (ak (aw (aI x n.m rfl aM (ae (pv 0) ag)))) aK) (ah (bf (aA bQ (pv 1) aq (aR _)) (ak (aw (aS aU (aS aU (pv 0) ai (λ_ _=>rfl)) ai (λ_ _=>rfl)))) aK) (ah (bf (aA bQ (pv 1) aq (aR _)) (ak (aw (aS aU (aS aU (pv 0) ai (λ_ _=>rfl)) ai (λ_ _=>rfl)))) aK) (ah (bf (aA bQ (pv 1) aq (aR _)) (ak (aw (aS aU (wW L (pv 2) (aS aU (pv 0) ai (λ_ _=>rfl)) (λ_ _=>rfl)) ai (λ_ _=>rfl)))) aK) (ak (aw (aS aU (pv 0) ai (λ_ _=>rfl))))))))),?_⟩;try dsimp only[gV,W]
 refine SW ?_;intro _ _ _ _ _ _;cases ha with|fn U V G F rz=>obtain⟨a,us,rfl,ha,v0,us,rfl,⟨rfl,_⟩,v1,us,rfl,i,v2,us,rfl,l,d⟩:=k;cases(show us=[]from d);obtain⟨c,ws,rfl,hc,w0,ws,rfl,⟨rfl,_⟩,w1,ws,rfl,u,w2,ws,rfl,m,d⟩:=i;cases(show ws=[]from d);refine⟨_,rfl,rfl,_,rfl,ba (λ_=>?_) (λc=>absurd (decide_eq_true rfl) c)⟩;refine⟨_,rfl,a,_,_,_,rfl,rfl,bU.of ha,aL (j:=1) rfl,c,_,_,_,rfl,rfl,bU.of hc,aL (j:=2) rfl,_,rfl,a,_,_,_,rfl,rfl,bU.of ha,aL (j:=2) rfl,?_⟩;exact⟨_,_,w2,v2,0,rfl,⟨m,l,U,V,G,F,rz,o.t1,o.t2⟩,q,N⟩|zero=>obtain⟨a,us,rfl,ha,v0,us,rfl,⟨rfl,_⟩,v1,us,rfl,i,v2,us,rfl,l,S,us,rfl,R,v4,us,rfl,Z,d⟩:=k;cases(show us=[]from d);refine⟨_,rfl,rfl,_,rfl,ba (λc=>absurd (of_decide_eq_true c) (by decide+kernel)) (λ_=>?_)⟩;refine⟨_,rfl,rfl,_,rfl,ba (λc=>absurd (of_decide_eq_true c) (by decide+kernel)) (λ_=>?_)⟩;refine⟨_,rfl,rfl,_,rfl,ba (λc=>absurd (of_decide_eq_true c) (by decide+kernel)) (λ_=>?_)⟩;refine⟨_,rfl,rfl,_,rfl,ba (λc=>absurd (of_decide_eq_true c) (by decide+kernel)) (λ_=>?_)⟩;refine⟨_,rfl,rfl,_,rfl,ba (λc=>absurd (of_decide_eq_true c) (by decide+kernel)) (λ_=>?_)⟩;exact⟨_,rfl,a,_,_,_,rfl,rfl,bU.of ha,aL (j:=2) rfl,q _ H (aQ.refl H) rfl l⟩|aaa=>obtain⟨a,us,rfl,ha,v0,us,rfl,⟨rfl,_⟩,v1,us,rfl,i,v2,us,rfl,l,S,us,rfl,R,d⟩:=k;cases(show us=[]from d);refine⟨_,rfl,rfl,_,rfl,ba (λc=>absurd (of_decide_eq_true c) (by decide+kernel)) (λ_=>?_)⟩;refine⟨_,rfl,rfl,_,rfl,ba (λc=>absurd (of_decide_eq_true c) (by decide+kernel)) (λ_=>?_)⟩;refine⟨_,rfl,rfl,_,rfl,ba (λc=>absurd (of_decide_eq_true c) (by decide+kernel)) (λ_=>?_)⟩;refine⟨_,rfl,rfl,_,rfl,ba (λc=>absurd (of_decide_eq_true c) (by decide+kernel)) (λ_=>?_)⟩;refine⟨_,rfl,rfl,_,rfl,ba (λc=>absurd (of_decide_eq_true c) (by decide+kernel)) (λ_=>?_)⟩;exact⟨_,rfl,a,_,_,_,rfl,rfl,bU.of ha,aL (j:=2) rfl,q _ H (aQ.refl H) rfl l⟩|next=>refine⟨_,rfl,rfl,_,rfl,ba (λc=>absurd (of_decide_eq_true c) (by decide+kernel)) (λ_=>?_)⟩;refine⟨_,rfl,rfl,_,rfl,ba (λ_=>?_) (λc=>absurd (decide_eq_true rfl) c)⟩;exact⟨_,rfl,_,_,_,_,v,rfl,k,λz H' s' O=>q z H' s' rfl O⟩|first=>obtain⟨a,us,rfl,ha,v0,us,rfl,⟨rfl,_⟩,v1,us,rfl,i,d⟩:=k;cases(show us=[]from d);obtain⟨c,ws,rfl,hc,w0,ws,rfl,⟨rfl,_⟩,w1,ws,rfl,u,w2,ws,rfl,m,T,ws,rfl,p,d⟩:=i;cases(show ws=[]from d);refine⟨_,rfl,rfl,_,rfl,ba (λc=>absurd (of_decide_eq_true c) (by decide+kernel)) (λ_=>?_)⟩;refine⟨_,rfl,rfl,_,rfl,ba (λc=>absurd (of_decide_eq_true c) (by decide+kernel)) (λ_=>?_)⟩;refine⟨_,rfl,rfl,_,rfl,ba (λ_=>?_) (λc=>absurd (decide_eq_true rfl) c)⟩;exact⟨_,rfl,a,_,_,_,rfl,rfl,bU.of ha,aL (j:=1) rfl,c,_,_,_,rfl,rfl,bU.of hc,aL (j:=2) rfl,q _ H (aQ.refl H) rfl m⟩|second=>obtain⟨a,us,rfl,ha,v0,us,rfl,⟨rfl,_⟩,v1,us,rfl,i,d⟩:=k;cases(show us=[]from d);obtain⟨c,ws,rfl,hc,w0,ws,rfl,⟨rfl,_⟩,w1,ws,rfl,u,w2,ws,rfl,m,T,ws,rfl,p,d⟩:=i;cases(show ws=[]from d);refine⟨_,rfl,rfl,_,rfl,ba (λc=>absurd (of_decide_eq_true c) (by decide+kernel)) (λ_=>?_)⟩;refine⟨_,rfl,rfl,_,rfl,ba (λc=>absurd (of_decide_eq_true c) (by decide+kernel)) (λ_=>?_)⟩;refine⟨_,rfl,rfl,_,rfl,ba (λc=>absurd (of_decide_eq_true c) (by decide+kernel)) (λ_=>?_)⟩;refine⟨_,rfl,rfl,_,rfl,ba (λ_=>?_) (λc=>absurd (decide_eq_true rfl) c)⟩;exact⟨_,rfl,a,_,_,_,rfl,rfl,bU.of ha,aL (j:=1) rfl,c,_,_,_,rfl,rfl,bU.of hc,aL (j:=3) rfl,q _ H (aQ.refl H) rfl p⟩|name=>rename_i y;obtain⟨a,us,rfl,ha,v0,us,rfl,⟨rfl,_⟩,v1,us,rfl,⟨rfl,X⟩,d⟩:=k;cases(show us=[]from d);obtain⟨q1,Y,tv,e1,e2,e3⟩:=I y (Af J);refine⟨_,rfl,rfl,_,rfl,ba (λc=>absurd (of_decide_eq_true c) (by decide+kernel)) (λ_=>?_)⟩;refine⟨_,rfl,rfl,_,rfl,ba (λc=>absurd (of_decide_eq_true c) (by decide+kernel)) (λ_=>?_)⟩;refine⟨_,rfl,rfl,_,rfl,ba (λc=>absurd (of_decide_eq_true c) (by decide+kernel)) (λ_=>?_)⟩;refine⟨_,rfl,rfl,_,rfl,ba (λc=>absurd (of_decide_eq_true c) (by decide+kernel)) (λ_=>?_)⟩;refine⟨_,rfl,rfl,_,rfl,ba (λ_=>?_) (λc=>absurd (decide_eq_true rfl) c)⟩;exact⟨_,rfl,_,rfl,a,_,_,_,rfl,rfl,bU.of ha,aL (j:=1) rfl,b,_,rfl,(.inl ⟨aF,Sum.inr y, .inl hb,rfl,e1.symm⟩),q1,_,_,_,rfl,rfl,bU.of e2,aL (j:=1) rfl,q _ H (aQ.refl H) rfl e3⟩
structure adv(inb:Str->Bool)(B:Str->D)(d:D)(pl:List Int)(r:Str)(e':D)(g:Bool):Prop where
 ex:∃e,goto d pl=some e/\Wf e/\cI inb e= .str r/\Jo B e r e' g
 wf:Wf d
 ln:pl.length<100
 rz:Rz (putD d pl e') 100
def CI(G T1 T2:Addr):Sp:=λvs H Q E=>∃(B:Str->D)(d e':D)(v pw:V)(pl:List Int)(b:Addr)(aF:List (Key×V))(r:Str)(g:Bool),vs=[v,pw, .ref b]/\Rep H d v/\Rep H (Sa pl) pw/\H b=some (.dK aF)/\RP H aF B/\adv (eE aF) B d pl r e' g/\JZ H T1 T2/\(∀(z:V)(H':Hp),aQ H H'->(g||fY (putD d pl e'))=false->Rep H' (putD d pl e') z->Q z H')/\(∀H',aQ H H'->(g||fY (putD d pl e'))=true->E (.ref G) none H')
theorem lS:aT ["thing","place","book","here","rule"] ["thing","place","book"] (ar kN):=⟨rfl,rfl,rfl,by decide+kernel,rfl,by decide+kernel,by decide+kernel⟩
theorem MN{T1 T2:Addr}(D:Df K mg "stepped" kN ["thing","place","book"])(M:Mg mg t)(S:oV K t.cJ)(U:bx P w K mg (f9 P w) "at_place" (3) ["thing","place"] (XN t.bp))(V:bx P w K mg bF "rule_of" (1) ["thing","book"] yf)(W:bx P w K mg (f9 P w) "with_at" (105) ["thing","place","new"] (Vk t.bp t.cu 100))(T:bx P w K mg (f9 P w) "after_rule" (127) ["thing","rule","book"] (HQ t.cu T1 T2)):bx P w K mg (f9 P w) "stepped" (128) ["thing","place","book"] (CI t.cu T1 T2):=by
 refine D.R_ lS (λvs H Q E h=>?_) (λbase f cZ A outer s H vs Q E l h=>?_);·obtain⟨B,d,e',v,pw,pl,b,aF,r,g,rfl,_⟩:=h;rfl
 obtain⟨B,d,e',v,pw,pl,b,aF,r,g,rfl,rd,O,hb,Y,ok,Z,q,L⟩:=h;obtain⟨⟨e,p,we,J,ha⟩,R,hl,rz⟩:=ok;refine⟨_,(ah (aH (i:=3) lS.nd rfl (cq rfl) (aI U l.m rfl dG (ae (pv 0) (ae (pv 1) ag)))) (ah (aH (i:=4) lS.nd rfl (cq rfl) (aI V l.m rfl aM (ae (pv 3) (ae (pv 2) ag)))) (ah (bf (aA RL (pv 4) lW (aR _)) (ak (mB (G:=(λH'=>E (.ref t.cJ) none H')) S M.g_NoStep (ae aq ag) (λpins σ H s e h' I m q=>uE I m q))) aK) (ak (aw (aI W l.m rfl dG (ae (pv 0) (ae (pv 1) (ae (aI T l.m rfl dG (ae (pv 3) (ae (pv 4) (ae (pv 2) ag)))) ag))))))))),?_⟩;try dsimp only[gV,cP]
 refine Et ?_;intro _ _ _ _;refine⟨_,rfl,_,rfl,d,v,pl,pw,rfl,rd,R,O,λe1 u X s1 a N=>?_,λX s1 a=>by rw[p]at a;cases a⟩;rw[p]at a;cases a;refine⟨_,rfl,_,rfl,e,u,b,aF,rfl,N,we,s1 _ _ hb,λH2 s2=>?_⟩;rw[J];refine⟨_,rfl,rfl,_,rfl,ba (λc=>absurd c (by simp)) (λ_=>?_)⟩;have j:=s1.trans s2;refine⟨_,rfl,_,rfl,_,rfl,_,rfl,_,rfl,B,e,e',u,r,b,aF,g,rfl,N.mono s2,ha,Z.mono j,j _ _ hb,Y.mono j,J,λz C y F r3=>?_,λC y hgt=>L C (j.trans y) (by rw[hgt];rfl)⟩;have n:=j.trans y;refine⟨d,v,pl,pw,e',z,rfl,rd.mono n,R,O.mono n,r3,hl,λ_=>rz,λu' k o _ x r4=>q u' k (n.trans o) (by rw[F];exact x) r4,(λk o h4=>by rw[p]at h4;cases h4),λk o _ x=>L k (n.trans o) (by rw[F];exact x)⟩
theorem iU:aT ["thing","log","book","here","place","rule"] ["thing","log","book"] (ar m_):=⟨rfl,rfl,rfl,by decide+kernel,rfl,by decide+kernel,by decide+kernel⟩
inductive Out|ok(d:D)|great|dry
theorem M_{d:D}(h:fY d=false):depth d<=40/\aG d<=600:=by have h:(dz d||eM d)=false:=h;rw[Bool.or_eq_false_iff]at h;have h:=h.1;unfold dz at h;simp at h;lia
theorem S0(x:Str):VG (.str x) ((["var","name"]:List Str).map V.str)=dX x:=by rw[yF];unfold dX;rw[Bool.eq_iff_iff];simp
theorem Ff:aT ["_law_thing_here"] ["_law_thing_here"] (ar iZ):=⟨rfl,rfl,rfl,by decide+kernel,rfl,by decide+kernel,by decide+kernel⟩
theorem GS(D:Df K mg "_law_kids" iZ ["_law_thing_here"])(M:Mg mg t):bx P w K mg bF "_law_kids" (1) ["_law_thing_here"] fZ:=by
 refine D.ok Ff (λvs H Q E h=>?_) (λbase f cZ A outer s H vs Q E y h=>?_);·obtain⟨x,ps,v,rfl,_⟩:=h;rfl
 obtain⟨x,ps,v,rfl,r,hl,q⟩:=h;obtain⟨a,us,rfl,ha,v0,us,rfl,⟨rfl,B⟩,g⟩:=r;have u:=g.length;have i:lX (V.str x::us) 0=some (.str x):=aL (j:=0) rfl;refine⟨_,(ah (bf (aA iE (aS aU (pv 0) ai (λ_ _=>rfl)) (aE (ae aq (ae aq ag))) rfl) (ak (aw (bR ag))) aK) (ak (aw (fC jj rfl M.Gw Cs (ae (cg Cf (pv 0) (bZ ai) bI) ag))))),?_⟩;try dsimp only[gV,o]
 refine qM ?_;intro _ _;refine⟨_,rfl,a,_,_,_,rfl,rfl,bU.of ha,i,(c7 rfl),λe k=>⟨e,(["var","name"]:List Str).map V.str,rfl, .inr (bU.of aj),rfl,rfl,_,rfl,?_⟩⟩;have s1:=ao k (.tup [V.str "var", .str "name"]);show if(VG (.str x) ((["var","name"]:List Str).map V.str))=true then _ else _;rw[S0];generalize upd H e (.tup [V.str "var", .str "name"])=n at s1⊢;refine ba (λc=>?_) (λc=>?_);·exact⟨fW _,λp b=>q p [] _ (s1.free b) (s1.trans (ao b _)) aj (by unfold aB;rw[if_pos c];exact rfl)⟩
 have m:aB x ps=ps:=by unfold aB;rw[if_neg c]
 rw[m]at q;have d:gJ (V.str x::us) (some 1) none=us:=by have :=kO (V.str x::us) 1;simpa using this
 have h1:=s1 _ _ ha;refine⟨_,rfl,_,rfl,a,_,rfl,bU.of h1,λp b=>?_,λz=>?_⟩;·rw[d];refine⟨p,us,rfl, .inr (bU.of aj),λl hl=>?_⟩;have s2:=s1.trans ((ao b (.tup us)).trans (ao hl (.lst us)));exact q l us _ (s1.free ((ao b _).free hl)) s2 aj (g.mono s2)
 ·rw[d]at z;exact absurd (congrArg List.length z) (by simp)
theorem zN:∀(l:List Nat)(a:Nat),jE (l++[a])=max (jE l) a|[],a=>by show max a 0=max 0 a;lia|b::l,a=>by show max b (jE (l++[a]))=max (max b (jE l)) a;rw[zN l a];lia
theorem Ax:∀(ds:List D)(e:D),gO (ds++[e])=(gO ds||eM e)|[],e=>by show(eM e||false)=(false||eM e);rw[Bool.or_false,Bool.false_or]|d::ds,e=>by rw[List.cons_append,gO,Ax ds e,gO,Bool.or_assoc]
theorem Sw{x:Str}{ps:List D}{k:Bool}(wf:bu ay k (.tup (.str x::ps))=true)(m:Nat)(hm:m=(aB x ps).length):((if x="var"then eM (.tup (.str x::ps))else false)||gO ((aB x ps).take m))=eM (.tup (.str x::ps)):=by
 rw[hm,List.take_length];by_cases b:x="var"
 ·rw[if_pos b];have :aB x ps=[]:=by unfold aB;rw[if_pos (by rw[b];decide+kernel)]
  rw[this];show(_||false)=_;rw[Bool.or_false]
 ·rw[if_neg b,Bool.false_or];by_cases d:dX x=true
  ·have e:aB x ps=[]:=by unfold aB;rw[if_pos d]
   rw[e];have g:∀a:List D,(∀p∈a,eM p=false)->gO a=false:=λa=>by induction a with|nil=>intro _;rfl|cons q a f=>intro h;rw[gO,h q eD,f λp c=>h p (eA _ c)];rfl
   have :gO ps=false:=g ps λp c=>by obtain⟨i,hi,e⟩:=List.mem_iff_getElem.mp c;exact E3 wf d b i p (by rw[dD hi,e])
   show false=(false||gO ps);rw[this];rfl
  ·have e:aB x ps=ps:=by unfold aB;rw[if_neg d]
   rw[e];show gO ps=(false||gO ps);rw[Bool.false_or]
def xD(n:Nat):Sp:=λvs H Q _=>∃(d:D)(v:V),vs=[v]/\Rep H d v/\Rz d n/\∀(q:Addr)(c:Int)(H':Hp),aQ H H'->-1<=c->decide (99<c)=eM d->H' q=some (.tup [.int (aG d:Nat), .int (depth d:Nat), .int c])->Q (.ref q) H'
theorem bL:aT ["_law_thing_here","_law_knots","_law_deep","_law_most","_law_kid","_law_told_here"] ["_law_thing_here"] (ar dY):=⟨rfl,rfl,rfl,by decide+kernel,rfl,by decide+kernel,by decide+kernel⟩
theorem qX{n:Nat}(D:Df K mg "_law_measured" dY ["_law_thing_here"])(M:Mg mg t)(O:bx P w K mg bF "_law_kids" (1) ["_law_thing_here"] fZ)(R:bx P w K mg bF "_law_measured" (n+131) ["_law_thing_here"] (xD n)):bx P w K mg bF "_law_measured" (n+132) ["_law_thing_here"] (xD (n+1)):=by
 refine D.ok bL (λvs H Q E h=>?_) (λbase f cZ A outer s H vs Q E B h=>?_);·obtain⟨d,v,rfl,_⟩:=h;rfl
 obtain⟨d,v,rfl,r,rz,q⟩:=h;have hh:=B.hd (by lia);obtain⟨x,ps,k,rfl,wf,X⟩:=jK rz.wf;have hk4:=J_ wf;obtain⟨a,N,rfl,ha,v0,N,rfl,⟨rfl,hx⟩,rp⟩:=id r;have W:lX (V.str x::N) 0=some (.str x):=aL (j:=0) rfl;refine⟨_,(ah (aH (i:=1) bL.nd rfl (cq rfl) ai) (ah (aH (i:=2) bL.nd rfl (cq rfl) ai) (ah (aH (i:=3) bL.nd rfl (cq rfl) (QT FY ai)) (uh (bf (aA bQ (aS aU (pv 0) ai (λ_ _=>rfl)) aq (aR _)) (ak (aH (i:=3) bL.nd rfl (cq rfl) (aS aU (pv 0) ai (λ_ _=>rfl)))) aK) (ah (fk PassesOwn.never rfl (gm (aI O B.m rfl aM (ae (pv 0) ag))) (bJ (i:=4) bL.nd rfl (cq rfl)) (ah (aH (i:=5) bL.nd rfl (cq rfl) (aI R B.m rfl aM (ae (pv 4) ag))) (ah (aH (i:=1) bL.nd rfl (cq rfl) (aJ bT (pv 1) (aS aU (pv 5) ai (λ_ _=>rfl)))) (ah (aH (i:=2) bL.nd rfl (cq rfl) (bz (zV hh) rfl M.OI GW (ae (pv 2) (ae (aS aU (pv 5) ai (λ_ _=>rfl)) ag)))) (ak (aH (i:=3) bL.nd rfl (cq rfl) (bz (zV hh) rfl M.OI GW (ae (pv 3) (ae (aS aU (pv 5) ai (λ_ _=>rfl)) ag))))))))) (ak (aw (aE (ae (pv 1) (ae (aJ bT (pv 2) ai) (ae (pv 3) ag))))))))))),?_⟩;try dsimp only[gV,cP]
 refine Et ?_;intro _ _ _ _;refine⟨_,rfl,λl H'=>∃c:Int,l=[some (.ref a),some (.int 1),some (.int 0),some (.int c),none,none]/\-1<=c/\decide (99<c)=(if x="var"then eM (.tup (.str x::ps))else false)/\H'=H,?_,?_⟩
 ·refine⟨_,rfl,a,_,_,_,rfl,rfl,bU.of ha,W,rfl,_,rfl,?_⟩;refine ba (λc=>?_) (λc=>⟨-1,rfl,by decide,by rw[if_neg (λz=>c (by rw[z];exact decide_eq_true rfl))];rfl,rfl⟩);have c:V.str x=V.str "var":=of_decide_eq_true c;cases c;obtain⟨sh,e1,_,e3,_,u,_⟩:=bO wf;rw[eT]at e1;cases e1;rw[yO]at e3 u;obtain⟨g,rfl⟩:∃g,ps=[g]:=by cases ps with|nil=>simp at u|cons g rest=>cases rest with|nil=>exact⟨g,rfl⟩|cons _ _=>simp at u
  rw[aP,cW]at e3;have hn:iD g=true:=by simpa[dv]using e3.1
  obtain⟨i,rfl⟩:∃i,g= .int i:=by cases g<;>first|exact⟨_,rfl⟩|simp[iD]at hn
  obtain⟨u1,mj,rfl,p,_⟩:=rp;cases(show u1=V.int i from p);have hi:0<=i:=by simp[iD]at hn;exact hn
  exact⟨_,rfl,a,_,_, .int i,rfl,rfl,bU.of ha,aL (j:=1) rfl,i,rfl,by lia,by rw[if_pos rfl];simp[eM,gO],rfl⟩
 rintro l H0⟨c,rfl,c0,c1,rfl⟩;refine⟨_,rfl,x,ps,_,rfl,r,X,λZ us S _ s1 h1 p=>⟨Z,rfl,⟨us,bE.of h1⟩,?_⟩⟩;have L:=p.length;have I:=jg wf;let U:Nat->L2.St->Hp->Prop:=(λj l H'=>∃(c:Int)(C F:Option V),l=[some (.ref a),some (.int ((1+(((aB x ps).take j).map aG).sum:Nat):Int)),some (.int (jE (((aB x ps).take j).map depth):Nat)),some (.int c),C,F]/\-1<=c/\decide (99<c)=((if x="var"then eM (.tup (.str x::ps))else false)||gO ((aB x ps).take j))/\aQ S H');refine iw us.length U ?_ ?_ ?_;·exact⟨c,none,none,rfl,c0,by rw[c1,List.take_zero,gO,Bool.or_false],aQ.refl _⟩
 ·rintro j l T hj⟨c,C,F,rfl,c0,c1,s2⟩;obtain⟨e,m⟩:∃e,(aB x ps)[j]?=some e:=⟨_,dD (by lia)⟩;obtain⟨G,J,ruj⟩:=p.get m;refine⟨⟨us,G,bE.of (s2 _ _ h1),J⟩,?_⟩;rintro x' H3⟨rfl,o⟩;have o:=o us (bE.of (s2 _ _ h1));rw[J]at o;cases o;refine⟨_,rfl,e,G,rfl,ruj.mono s2,rz.kid m,λq3 b H4 s4 b0 b1 h4=>?_⟩;have y:=bU.of (K:=K) h4;refine⟨_,rfl,_,rfl,q3,_,_,_,rfl,rfl,y,aL (j:=0) rfl,_,_,rfl,rfl,?_⟩;refine⟨_,rfl,_,rfl,q3,_,_,_,rfl,rfl,y,aL (j:=1) rfl,_,_,rfl,?_⟩;refine⟨_,rfl,_,rfl,q3,_,_,_,rfl,rfl,y,aL (j:=2) rfl,_,_,rfl,?_⟩;refine⟨if b>c then b else c,some G,some (.ref q3),?_,?_,?_,s2.trans s4⟩;rotate_left;·show-1<=(if b>c then b else c);split<;>lia
  ·show decide (99<(if b>c then b else c))=_;rw[take_snoc m,Ax,<-Bool.or_assoc,<-c1,<-b1];by_cases h1:b>c
   ·rw[if_pos h1];by_cases h2:99<b;·rw[decide_eq_true h2,Bool.or_true]
    ·rw[decide_eq_false h2,decide_eq_false (by lia)];rfl
   ·rw[if_neg h1];by_cases h2:99<c;·rw[decide_eq_true h2,Bool.true_or]
    ·rw[decide_eq_false h2,decide_eq_false (by lia)];rfl
  ·rw[take_snoc m,mH,mH,List.sum_append,List.map_singleton,List.map_singleton,zN,List.sum_singleton];have e1:((1+(((aB x ps).take j).map aG).sum:Nat):Int)+((aG e:Nat):Int)=((1+((((aB x ps).take j).map aG).sum+aG e):Nat):Int):=by lia
   have e2:(if((depth e:Nat):Int)>((jE (((aB x ps).take j).map depth):Nat):Int)then((depth e:Nat):Int)else((jE (((aB x ps).take j).map depth):Nat):Int))=((max (jE (((aB x ps).take j).map depth)) (depth e):Nat):Int):=by split<;>lia
   rw[<-e1,<-e2];rfl
 ·rintro l T⟨c,C,F,rfl,c0,c1,s2⟩;refine⟨⟨us,bE.of (s2 _ _ h1),bN _⟩,?_⟩;refine⟨_,rfl,_,rfl,_,_,rfl,rfl,_,rfl,(c7 rfl),λq4 Y=>?_⟩;refine q q4 c _ (s1.trans (s2.trans (ao Y _))) c0 (c1.trans (Sw wf us.length L)) ?_;rw[I.1,I.2];rw[L,List.take_length];have e2:((jE ((aB x ps).map depth):Nat):Int)+1=((1+jE ((aB x ps).map depth):Nat):Int):=by lia
  rw[<-e2];exact aj
theorem gC(D:Df K mg "_law_measured" dY ["_law_thing_here"])(M:Mg mg t)(a:bx P w K mg bF "_law_kids" (1) ["_law_thing_here"] fZ):∀n:Nat,bx P w K mg bF "_law_measured" (n+131) ["_law_thing_here"] (xD n)|0=>bx.never D λvs H Q E⟨d,v,_,_,h,_⟩=>absurd h.dp (Nat.not_lt_zero _)|n+1=>qX D M a (gC D M a n)
def BL(n:Nat):Sp:=λvs H Q _=>∃(d:D)(v:V),vs=[v]/\Rep H d v/\Rz d n/\∀H',aQ H H'->Q (.bl (fY d)) H'
theorem mT:aT ["_law_thing_here","_law_told_here"] ["_law_thing_here"] (ar hU):=⟨rfl,rfl,rfl,by decide+kernel,rfl,by decide+kernel,by decide+kernel⟩
theorem qI{n:Nat}(D:Df K mg "_law_great" hU ["_law_thing_here"])(M:Mg mg t)(g:bx P w K mg bF "_law_measured" (n+131) ["_law_thing_here"] (xD n)):bx P w K mg bF "_law_great" (n+132) ["_law_thing_here"] (BL n):=by
 refine D.ok mT (λvs H Q E h=>?_) (λbase f cZ A outer s H vs Q E l h=>?_);·obtain⟨d,v,rfl,_⟩:=h;rfl
 obtain⟨d,v,rfl,r,rz,q⟩:=h;refine⟨_,(ah (aH (i:=1) mT.nd rfl (cq rfl) (aI g l.m rfl aM (ae (pv 0) ag))) (ak (aw (V1 (nF lJ (aS aU (pv 1) ai (λ_ _=>rfl)) ai (aR _)) (V1 (nF lJ (aS aU (pv 1) ai (λ_ _=>rfl)) ai (aR _)) (NC (nF lJ (aS aU (pv 1) ai (λ_ _=>rfl)) ai (aR _)))))))),?_⟩;try dsimp only[gV,m]
 refine qM ?_;intro _ _;refine⟨_,rfl,d,v,rfl,r,rz,λp c k s1 c0 c1 h1=>?_⟩;have b:=bU.of (K:=K) h1;have a:=q k s1;refine⟨_,rfl,p,_,_,_,rfl,rfl,b,aL (j:=0) rfl,_,_,rfl,rfl,_,rfl,?_⟩;refine ba (λc=>?_) (λc=>?_)
 ·have c:(600:Int)<((aG d:Nat):Int):=of_decide_eq_true c;have e:dz d=true:=by unfold dz;simp;lia
  have e:fY d=true:=by show(dz d||eM d)=true;rw[e];rfl
  rw[e]at a;exact a
 have c:¬(600:Int)<((aG d:Nat):Int):=of_decide_eq_false (Bool.eq_false_iff.mpr c);refine⟨_,rfl,p,_,_,_,rfl,rfl,b,aL (j:=1) rfl,_,_,rfl,rfl,_,rfl,?_⟩;refine ba (λc2=>?_) (λc2=>?_)
 ·have c2:(40:Int)<((depth d:Nat):Int):=of_decide_eq_true c2;have e:dz d=true:=by unfold dz;simp;lia
  have e:fY d=true:=by show(dz d||eM d)=true;rw[e];rfl
  rw[e]at a;exact a
 have c2:¬(40:Int)<((depth d:Nat):Int):=of_decide_eq_false (Bool.eq_false_iff.mpr c2);have e:dz d=false:=by unfold dz;simp;lia
 have e:fY d=eM d:=by show(dz d||eM d)=_;rw[e];rfl
 rw[e,<-c1]at a;exact⟨_,rfl,p,_,_,_,rfl,rfl,b,aL (j:=2) rfl,_,_,rfl,rfl,a⟩
def JK(K:PySem.W.Frag):Sp:=λvs H Q _=>∃(a p c:Addr)(ns:List Int)(i deep near:Int),vs=[.ref a, .ref p, .int deep, .int near, .ref c]/\Sg K a p c ns H i/\i<2^50/\1<=deep/\deep<=5/\0<=near/\near<=90/\∀(k:Bool)(d:D)(v:V)(H':Hp)(i':Int),Ou K a p c ns H i k 16 300000 1000000000 d v H' i'->Q v H'
theorem jz:aT ["_law_script","_law_tape","_law_deep","_law_near","_law_pool_here","_law_made"] eQ (ar hV):=⟨rfl,rfl,rfl,by decide+kernel,rfl,by decide+kernel,by decide+kernel⟩
theorem DV(D:Df K mg "_law_thing" hV eQ)(M:Mg mg t)(n:bx P w K mg bF "_law_draw" (1) Bi (d_ K))(u:bx P w K mg bF "_law_kind" (153) eQ (eF K true 7))(x:bx P w K mg bF "_law_term" (153) eQ (eF K false 7))(r:bx P w K mg bF "_law_great" (152) ["_law_thing_here"] (BL 20)):bx P w K mg bF "_law_thing" (154) eQ (JK K):=by
 refine D.ok jz (λvs H Q E h=>?_) (λbase f cZ A outer s H vs Q E b h=>?_);·obtain⟨a,p,c,ns,i,deep,near,rfl,_⟩:=h;rfl
 obtain⟨a,p,c,ns,i,deep,near,rfl,g,hi,d0,C,l,I,q⟩:=h;have i0:=g.T.i0;have G:cst 7=100000000:=by decide
 have F:p5 7=78125:=by decide
 refine⟨_,(uh (bf (aA bQ (aI n b.m rfl aM (ae (pv 0) (ae (pv 1) (ae ai ag)))) ai (aR _)) (ak (aH (i:=5) jz.nd rfl (cq rfl) (aI u b.m rfl aM (ae (pv 0) (ae (pv 1) (ae (pv 2) (ae (pv 3) (ae (pv 4) ag)))))))) (ak (aH (i:=5) jz.nd rfl (cq rfl) (aI x b.m rfl aM (ae (pv 0) (ae (pv 1) (ae (pv 2) (ae (pv 3) (ae (pv 4) ag))))))))) (ah (bf (l0 (aI r b.m rfl aM (ae (pv 5) ag))) (ak (aw (aE (ae aq ag)))) aK) (ak (aw (pv 5))))),?_⟩;try dsimp only[gV,B]
 refine⟨λm H'=>∃(k:Bool)(d:KM.D)(v:V)(i':Int),m=[some (.ref a),some (.ref p),some (.int deep),some (.int near),some (.ref c),some v]/\Ou K a p c ns H i k 16 300000 1000000000 d v H' i',?_,?_⟩
 ·refine⟨_,rfl,_,rfl,a,p,ns,i,5,rfl,g.T,(by lia),(by decide),λN y w0 w1 e h1=>⟨rfl,_,rfl,?_⟩⟩;have j:=g.next e h1 (by lia);refine ba (λ_=>?_) (λ_=>?_);·exact⟨_,rfl,_,rfl,_,rfl,_,rfl,_,rfl,a,p,c,ns,i+1,deep,near,rfl,j,(by lia),(by lia),(by lia),(by decide),l,(by lia),λd v H' i' o=>⟨true,d,v,i',rfl,(o.after (co1:=1) e (by lia) (by lia)).weak (by decide) (by lia) (by lia)⟩⟩
  ·exact⟨_,rfl,_,rfl,_,rfl,_,rfl,_,rfl,a,p,c,ns,i+1,deep,near,rfl,j,(by lia),(by lia),(by lia),(by decide),l,(by lia),λd v H' i' o=>⟨false,d,v,i',rfl,(o.after (co1:=1) e (by lia) (by lia)).weak (by decide) (by lia) (by lia)⟩⟩
 rintro m y⟨k,d,v,i',rfl,o⟩;have J:=o.dp;have L:=o.kn;refine⟨_,rfl,d,v,rfl,o.r,⟨⟨k,o.wf⟩,by lia,by lia⟩,λz s2=>⟨_,rfl,?_⟩⟩;refine ba (λ_=>?_) (λ_=>?_);·refine⟨(c7 rfl),λq1 e1=>?_⟩;exact q false _ _ _ _ (made (o.sx.trans s2.x) (o.g.mono s2) e1 (rs gY r0) jq (by apply KM.d0;with_reducible repeat' first|apply KM.n9|apply KM.nY|apply KM.q0|apply KM.q4|apply KM.q3|apply KM.q2|apply KM.q1|lia) (by simp only[aG,aO];lia) o.lo o.hi)
 ·exact⟨_,rfl,q k d v z i' ⟨o.r.mono s2,o.wf,o.dp,o.kn,o.sx.trans s2.x,o.g.mono s2,o.lo,o.hi⟩⟩
def R6(H:Hp)(v:V):Prop:=∃(q:Addr)(a b:D)(c d:V),v= .ref q/\H q=some (.tup [c,d])/\Rep H a c/\bu ay true a=true/\Rep H b d/\bu ay false b=true/\depth a<=16/\depth b<=16/\aG a<=300000/\aG b<=300000
structure Bk(H:Hp)(aF:List (Key×V)):Prop where
 len:aF.length<=1000
 each:∀k v,(k,v)∈aF->R6 H v
theorem R6.sx{H H':Hp}{p:Addr}{v:V}(h:R6 H v)(s:bD p H H')(a:∀vs,H p≠some (.tup vs)):R6 H' v:=by obtain⟨q,c,d,i,j,e,hq,f,w1,g,w2,b⟩:=h;exact⟨q,c,d,i,j,e,s _ _ (λz=>by subst z;exact a _ hq) hq,f.fJ s a,w1,g.fJ s a,w2,b⟩
theorem Bk.sx{H H':Hp}{p:Addr}{aF:List (Key×V)}(h:Bk H aF)(s:bD p H H')(a:∀vs,H p≠some (.tup vs)):Bk H' aF:=⟨h.len,λk v m=>(h.each k v m).sx s a⟩
theorem R6.mono{H H':Hp}{v:V}(h:R6 H v)(s:aQ H H'):R6 H' v:=by obtain⟨q,a,c,g,i,e,hq,d,w1,f,w2,b⟩:=h;exact⟨q,a,c,g,i,e,s _ _ hq,d.mono s,w1,f.mono s,w2,b⟩
theorem Bk.mono{H H':Hp}{aF:List (Key×V)}(h:Bk H aF)(s:aQ H H'):Bk H' aF:=⟨h.len,λk v m=>(h.each k v m).mono s⟩
theorem AH{aF:List (Key×V)}{k d:Key}{v c:V}(h:(d,c)∈putK aF k v):(d,c)∈aF\/c=v:=by
 unfold putK at h;split at h
 ·obtain⟨⟨a,b⟩,m,e⟩:=List.mem_map.mp h;simp only at e;split at e;·cases e;exact .inr rfl
  ·cases e;exact .inl m
 ·rcases List.mem_append.mp h with m|m;·exact .inl m
  ·have :=List.mem_singleton.mp m;cases this;exact .inr rfl
theorem mG{aF:List (Key×V)}{k:Key}{v:V}:(putK aF k v).length<=aF.length+1:=by
 unfold putK;split;·rw[cV];lia
 ·rw[dZ,List.length_singleton];exact bN _
theorem bG{H:Hp}{p:Addr}{xs:List V}(h:H p=some (.lst xs)):∀vs,H p≠some (.tup vs):=λvs z=>by rw[h]at z;cases z
theorem d8{H:Hp}{p:Addr}{xs:List (Key×V)}(h:H p=some (.dK xs)):∀vs,H p≠some (.tup vs):=λvs z=>by rw[h]at z;cases z
def PU(K:PySem.W.Frag):Sp:=λvs H Q _=>∃(a p c:Addr)(ns:List Int)(i:Int),vs=[.ref a, .ref p, .ref c]/\Sg K a p c ns H i/\i<2^50/\∀(b:Addr)(aF:List (Key×V))(H':Hp)(i':Int),H b=none->H' b=some (.dK aF)->aF.length<=3->Bk H' aF->bD p H H'->Sg K a p c ns H' i'->i<=i'->i'<=i+10000000000->Q (.ref b) H'
theorem g_:aT ["_law_script","_law_tape","_law_pool_here","_law_book_here","_law_k","_law_kind_here"] ["_law_script","_law_tape","_law_pool_here"] (ar jv):=⟨rfl,rfl,rfl,by decide+kernel,rfl,by decide+kernel,by decide+kernel⟩
theorem Ho(D:Df K mg "_law_book" jv ["_law_script","_law_tape","_law_pool_here"])(M:Mg mg t)(aC:bx P w K mg bF "_law_draw" (1) Bi (d_ K))(bB:bx P w K mg bF "_law_kind" (153) eQ (eF K true 7))(bh:bx P w K mg bF "_law_term" (153) eQ (eF K false 7)):bx P w K mg bF "_law_book" (154) ["_law_script","_law_tape","_law_pool_here"] (PU K):=by
 refine D.ok g_ (λvs H Q E h=>?_) (λbase f cZ A outer s H vs Q E u h=>?_);·obtain⟨a,p,c,ns,i,rfl,_⟩:=h;rfl
 obtain⟨a,p,c,ns,i,rfl,g,hi,q⟩:=h;have i0:=g.T.i0;have hu:=ql u;have ec:cst 7=100000000:=by decide
 have e5:p5 7=78125:=by decide
 refine⟨_,(ah (aH (i:=3) g_.nd rfl (cq rfl) OT) (ah (fk PassesOwn.never rfl (eR rfl M.ia (ae (aI aC u.m rfl aM (ae (pv 0) (ae (pv 1) (ae ai ag)))) ag)) (bJ (i:=4) g_.nd rfl (cq rfl)) (ah (aH (i:=5) g_.nd rfl (cq rfl) (aI bB u.m rfl aM (ae (pv 0) (ae (pv 1) (ae ai (ae ai (ae (pv 2) ag))))))) (ak (AW hu (pv 3) (aS bK (pv 2) (pv 4) (λ_ _=>rfl)) (aE (ae (pv 5) (ae (aI bh u.m rfl aM (ae (pv 0) (ae (pv 1) (ae ai (ae ai (ae (pv 2) ag)))))) ag))) rfl)))) (ak (aw (pv 3))))),?_⟩;try dsimp only[gV,cP]
 refine zu ?_;intro _ _ _;intro b hb;have sb:=ao hb (.dK []);have W:(upd H b (.dK [])) b=some (.dK []):=aj;have F:=g.mono sb;have xb:bD p H (upd H b (.dK [])):=sb.x;have Z:b≠p:=λz=>by subst z;rw[g.T.dq]at hb;cases hb
 generalize upd H b (.dK [])=H0 at sb W F xb⊢;refine⟨_,rfl,_,rfl,a,p,ns,i,4,rfl,F.T,(by lia),(by decide),λm H1 m0 m1 L h1=>⟨_,rfl,(by lia),(by lia),?_⟩⟩;obtain⟨m,rfl⟩:∃k:Nat,m=(k:Int):=⟨m.toNat,by lia⟩;have g1:=F.next L h1 (by lia);have hb1:=L _ _ Z W;let EJ:Nat->L2.St->Hp->Prop:=(λk R H'=>∃(aF:List (Key×V))(i':Int)(I G:Option V),R=[some (.ref a),some (.ref p),some (.ref c),some (.ref b),I,G]/\H' b=some (.dK aF)/\aF.length<=k/\Bk H' aF/\bD p H H'/\Sg K a p c ns H' i'/\i<=i'/\i'<=i+1+200000000*(k:Int));refine iw (m:Int).toNat EJ ?_ ?_ ?_;·exact⟨[],i+1,none,none,rfl,hb1,bN _,⟨by simp,λk v h=>by cases h⟩,xb.trans L,g1,by lia,by lia⟩
 ·rintro k R T hk⟨aF,i2,I,G,rfl,h2,l2,n,N,r,Y,hi2⟩;refine⟨hk,?_⟩;rintro x' H2'⟨rfl,rfl⟩;have e0:(0:Int)+(k:Int)=((k:Nat):Int):=by lia
  rw[e0];refine⟨_,rfl,_,rfl,_,rfl,a,p,c,ns,i2,1,0,rfl,r,(by lia),(by decide),(by decide),(by decide),(by decide),(by decide),λdA j H3 i3 e=>?_⟩;have hA:=e.hi;have lA:=e.lo;refine⟨_,rfl,_,rfl,_,rfl,_,rfl,a,p,c,ns,i3,2,0,rfl,e.g,(by lia),(by decide),(by decide),(by decide),(by decide),(by decide),λdB l U i4 d=>⟨(c7 rfl),λq1 e1=>?_⟩⟩;have hB:=d.hi;have lB:=d.lo;have t1:=ao e1 (.tup [j,l]);have O:=e.sx.trans d.sx;have C:=d.g.mono t1;have h5:=t1 _ _ (O _ _ Z h2);have S:=(n.sx O (bG r.T.dq)).mono t1;have rA:=(e.later d.sx).mono t1;have rB:=d.r.mono t1;have X:(upd U q1 (.tup [j,l])) q1=some (.tup [j,l]):=aj;have x5:=(N.trans O).trans t1.x;generalize upd U q1 (.tup [j,l])=B at t1 C h5 S rA rB X x5⊢;obtain⟨x,y,z,l1,l2',l3,hc⟩:=C.pl;obtain⟨o,ho,hol⟩:∃o:Str,lX [V.str x, .str y, .str z] ((k:Nat):Int)=some (.str o)/\o.length<=101:=by
   have hk3:k=0\/k=1\/k=2:=by lia
   rcases hk3 with rfl|rfl|rfl;·exact⟨x,rfl,l1⟩
   ·exact⟨y,rfl,l2'⟩
   ·exact⟨z,rfl,l3⟩
  refine⟨_,rfl,_,rfl,_,rfl,c,_,_,_,rfl,rfl,bE.of hc,ho,b,_,rfl,Gy.k (k:=Sum.inr o) h5 (by have :aF.length<=1000:=n.len;exact Nat.lt_of_le_of_lt this (by decide)),?_⟩;have xu:bD b B (upd B b (.dK (putK aF (Sum.inr o) (.ref q1)))):=bD.upd _;have dA':=e.dp;have dB':=d.dp;have kA':=e.kn;have kB':=d.kn;have bV:R6 B (.ref q1):=⟨q1,dA,dB,j,l,rfl,X,rA,e.wf,rB,d.wf,dA',dB',by lia,by lia⟩;have hB':H b=none:=hb;refine⟨putK aF (Sum.inr o) (.ref q1),i4,_,_,rfl,aj,dJ mG (by lia),⟨dJ mG (by lia),λk' v' J=>?_⟩,?_,?_,by lia,by lia⟩
  ·rcases AH J with J|rfl;·exact(S.each k' v' J).sx xu (d8 h5)
   ·exact bV.sx xu (d8 h5)
  ·intro b' o' n' h';rw[aY (aZ h' hb)];exact x5 b' o' n' h'
  ·exact C.upd h5
 ·rintro R T⟨aF,i2,I,G,rfl,h2,l2,n,N,r,Y,hi2⟩;refine⟨bN _,_,rfl,q b aF T i2 hb h2 (by lia) n N r Y (by lia)⟩
theorem abL(v1 v2 a b:V)(x:Str):fh [((Sum.inr "app":Key),v1),(Sum.inr "carry",v2),(Sum.inr "first",a),(Sum.inr "second",b)] (Sum.inr x:Key)=if x="app"then some v1 else if x="carry"then some v2 else if x="first"then some a else if x="second"then some b else none:=by
 have inj:∀y:Str,(Sum.inr y:Key)=Sum.inr x↔x=y:=λy=>⟨λz=>by cases z;rfl,λz=>by rw[z]⟩;by_cases h1:x="app";·rw[if_pos h1,fV ((inj _).mpr h1)]
 rw[if_neg h1,fO (λz=>h1 ((inj _).mp z))];by_cases h2:x="carry";·rw[if_pos h2,fV ((inj _).mpr h2)]
 rw[if_neg h2,fO (λz=>h2 ((inj _).mp z))];by_cases h3:x="first";·rw[if_pos h3,fV ((inj _).mpr h3)]
 rw[if_neg h3,fO (λz=>h3 ((inj _).mp z))];by_cases h4:x="second";·rw[if_pos h4,fV ((inj _).mpr h4)]
 rw[if_neg h4,fO (λz=>h4 ((inj _).mp z))];rfl
theorem NP(v1 v2 a b:V):oy [] [((Sum.inr "app":Key),v1),(Sum.inr "carry",v2),(Sum.inr "first",a),(Sum.inr "second",b)]=[((Sum.inr "app":Key),v1),(Sum.inr "carry",v2),(Sum.inr "first",a),(Sum.inr "second",b)]:=by rfl
theorem kh:aT ["_law_thing_here","_law_book_here","_law_word_here","_law_heads"] ["_law_thing_here","_law_book_here"] (ar iY):=⟨rfl,rfl,rfl,by decide+kernel,rfl,by decide+kernel,by decide+kernel⟩
theorem Fx(D:Df K mg "_law_rule" iY ["_law_thing_here","_law_book_here"])(M:Mg mg t):bx P w K mg bF "_law_rule" (1) ["_law_thing_here","_law_book_here"] yf:=by
 refine D.ok kh (λvs H Q E h=>?_) (λbase f cZ A outer s H vs Q E hr h=>?_);·obtain⟨d,v,b,aF,rfl,_⟩:=h;rfl
 obtain⟨d,v,b,aF,rfl,r,wf,hb,q⟩:=h;have I:=ql hr;obtain⟨x,ps,k,rfl,W,Ha⟩:=jK wf;obtain⟨a,M3,rfl,ha,v0,us,rfl,⟨rfl,hx⟩,rp⟩:=id r;have ea:lX (V.str x::us) 0=some (.str x):=aL (j:=0) rfl;refine⟨_,(ah (aH (i:=2) kh.nd rfl (cq rfl) (aS aU (pv 0) ai (λ_ _=>rfl))) (ah (bf (aA bQ (pv 2) aq (aR _)) (ak (aw (aS bK (bR (ae aq (ae lW ag))) (fC MY rfl M.WW Qf (ae (Xq (M7 I (aS aU (pv 0) ai (λ_ _=>rfl)) (pv 1))) ag)) (λ_ _=>rfl)))) aK) (ah (aH (i:=3) kh.nd rfl (cq rfl) (K3 (fU aq (aE (ae ai (ae aq ag))) (fU aq (aE (ae ai (ae aq ag))) (fU aq (aE (ae ai (ae aq ag))) (fU aq (aE (ae ai (ae aq ag))) IL)))) rfl rfl (by simp) (by decide))) (uh (bf (L2.PW.pt (ND (Ny (Qj I (pv 2) (pv 3))) (Ir (aA bQ (aS aU (aS aU (pv 0) (aS aU (wW I (pv 3) (pv 2) (λ_ _=>rfl)) ai (λ_ _=>rfl)) (λ_ _=>rfl)) ai (λ_ _=>rfl)) (aS aU (wW I (pv 3) (pv 2) (λ_ _=>rfl)) ai (λ_ _=>rfl)) (aR _))))) (ak (aw (wW I (K3 (fU aq aq (fU aq aq (fU aq aq (fU aq aq IL)))) rfl rfl (by simp) (by decide)) (pv 2) (λ_ _=>rfl)))) aK) (ah (bf (L2.PW.pt (ND (aA bQ (pv 2) aq (aR _)) (Ir (aA iE (aS aU (aS aU (pv 0) ai (λ_ _=>rfl)) ai (λ_ _=>rfl)) (aE (ae aq (ae aq ag))) rfl)))) (ak (aw (aS aU (aS aU (pv 0) ai (λ_ _=>rfl)) ai (λ_ _=>rfl)))) aK) (ak (aw lW))))))),?_⟩;try dsimp only[gV,cP]
 refine Et ?_;intro _ _ _ _;refine⟨_,rfl,a,_,_,_,rfl,rfl,bU.of ha,ea,?_⟩;refine⟨_,rfl,rfl,_,rfl,?_⟩;refine ba (λc=>?_) (λc=>?_);·have c:V.str x=V.str "name":=of_decide_eq_true c;cases c;obtain⟨y,rfl⟩:=oM W;obtain⟨u,xN,rfl,⟨rfl,_⟩,ru⟩:=rp;cases(show xN=[]from ru);have eq1:cI (eE aF) (.tup [.str "name", .str y])=if eE aF y=true then .str "name"else .a_:=rfl;rw[eq1]at q;refine⟨(c7 rfl),λe G=>?_⟩;have s1:=ao G (.lst [V.str "name", .a_]);refine⟨_,rfl,a,_,_, .str y,rfl,rfl,bU.of (s1 _ _ ha),aL (j:=1) rfl,_,rfl,b,_,rfl,l_.k (k:=Sum.inr y) (s1 _ _ hb), .inr ⟨_,rfl,?_⟩⟩;have m:=q _ s1;show Su _ (.ref e) (V.int (if(!eE aF y)=true then 1 else 0)) _ _;cases RE:eE aF y with|true=>rw[RE]at m;exact⟨e,_,_, .str "name",rfl,rfl,bE.of aj,rfl,m⟩|false=>rw[RE]at m;exact⟨e,_,_, .a_,rfl,rfl,bE.of aj,rfl,m⟩
 have nn:x≠"name":=λz=>c (by rw[z];decide+kernel);have two:2<=sizeLine:=by decide
 intro e G;have s1:=ao G (.dK []);refine⟨two,λq1 e1=>⟨two,λq2 e2=>⟨two,λq3 e3=>⟨two,λq4 L=>?_⟩⟩⟩⟩;have t1:=ao e1 (.tup [V.int 1, .str "fun"]);have t2:=ao e2 (.tup [V.int 3, .str "like"]);have C:=ao e3 (.tup [V.int 1, .str "pair"]);have t4:=ao L (.tup [V.int 1, .str "pair"]);have p:(upd H e (.dK [])) e=some (.dK []):=aj;refine⟨t4 _ _ (C _ _ (t2 _ _ (t1 _ _ p))),[(Sum.inr "app", .ref q1),(Sum.inr "carry", .ref q2),(Sum.inr "first", .ref q3),(Sum.inr "second", .ref q4)],rfl,(by show 4<=15;decide),?_⟩;rw[NP];have B:aQ H (upd (upd (upd (upd (upd (upd H e (.dK [])) q1 (.tup [V.int 1, .str "fun"])) q2 (.tup [V.int 3, .str "like"])) q3 (.tup [V.int 1, .str "pair"])) q4 (.tup [V.int 1, .str "pair"])) e (.dK [(Sum.inr "app", .ref q1),(Sum.inr "carry", .ref q2),(Sum.inr "first", .ref q3),(Sum.inr "second", .ref q4)])):=eB (s1.trans (t1.trans (t2.trans (C.trans t4)))) G;have n1:q1≠e:=λz=>by rw[z,p]at e1;cases e1
 have n2:q2≠e:=λz=>by rw[z,t1 _ _ p]at e2;cases e2
 have n3:q3≠e:=λz=>by rw[z,t2 _ _ (t1 _ _ p)]at e3;cases e3
 have n4:q4≠e:=λz=>by rw[z,C _ _ (t2 _ _ (t1 _ _ p))]at L;cases L
 have h5:(upd (upd (upd (upd (upd (upd H e (.dK [])) q1 (.tup [V.int 1, .str "fun"])) q2 (.tup [V.int 3, .str "like"])) q3 (.tup [V.int 1, .str "pair"])) q4 (.tup [V.int 1, .str "pair"])) e (.dK [(Sum.inr "app", .ref q1),(Sum.inr "carry", .ref q2),(Sum.inr "first", .ref q3),(Sum.inr "second", .ref q4)])) e=some (.dK [(Sum.inr "app", .ref q1),(Sum.inr "carry", .ref q2),(Sum.inr "first", .ref q3),(Sum.inr "second", .ref q4)]):=aj;have f1:(upd (upd (upd (upd (upd (upd H e (.dK [])) q1 (.tup [V.int 1, .str "fun"])) q2 (.tup [V.int 3, .str "like"])) q3 (.tup [V.int 1, .str "pair"])) q4 (.tup [V.int 1, .str "pair"])) e (.dK [(Sum.inr "app", .ref q1),(Sum.inr "carry", .ref q2),(Sum.inr "first", .ref q3),(Sum.inr "second", .ref q4)])) q1=some (.tup [V.int 1, .str "fun"]):=by rw[aY n1];exact t4 _ _ (C _ _ (t2 _ _ aj))
 have f2:(upd (upd (upd (upd (upd (upd H e (.dK [])) q1 (.tup [V.int 1, .str "fun"])) q2 (.tup [V.int 3, .str "like"])) q3 (.tup [V.int 1, .str "pair"])) q4 (.tup [V.int 1, .str "pair"])) e (.dK [(Sum.inr "app", .ref q1),(Sum.inr "carry", .ref q2),(Sum.inr "first", .ref q3),(Sum.inr "second", .ref q4)])) q2=some (.tup [V.int 3, .str "like"]):=by rw[aY n2];exact t4 _ _ (C _ _ aj)
 have Y:(upd (upd (upd (upd (upd (upd H e (.dK [])) q1 (.tup [V.int 1, .str "fun"])) q2 (.tup [V.int 3, .str "like"])) q3 (.tup [V.int 1, .str "pair"])) q4 (.tup [V.int 1, .str "pair"])) e (.dK [(Sum.inr "app", .ref q1),(Sum.inr "carry", .ref q2),(Sum.inr "first", .ref q3),(Sum.inr "second", .ref q4)])) q3=some (.tup [V.int 1, .str "pair"]):=by rw[aY n3];exact t4 _ _ aj
 have Z:(upd (upd (upd (upd (upd (upd H e (.dK [])) q1 (.tup [V.int 1, .str "fun"])) q2 (.tup [V.int 3, .str "like"])) q3 (.tup [V.int 1, .str "pair"])) q4 (.tup [V.int 1, .str "pair"])) e (.dK [(Sum.inr "app", .ref q1),(Sum.inr "carry", .ref q2),(Sum.inr "first", .ref q3),(Sum.inr "second", .ref q4)])) q4=some (.tup [V.int 1, .str "pair"]):=by rw[aY n4];exact aj
 generalize upd (upd (upd (upd (upd (upd H e (.dK [])) q1 (.tup [V.int 1, .str "fun"])) q2 (.tup [V.int 3, .str "like"])) q3 (.tup [V.int 1, .str "pair"])) q4 (.tup [V.int 1, .str "pair"])) e (.dK [(Sum.inr "app", .ref q1),(Sum.inr "carry", .ref q2),(Sum.inr "first", .ref q3),(Sum.inr "second", .ref q4)])=X at B h5 f1 f2 Y Z⊢;clear t1 t2 C t4 s1 p G e1 e2 e3 L;have R:=B _ _ ha;have rp5:=rp.mono B;have key:(fh [((Sum.inr "app":Key),V.ref q1),(Sum.inr "carry", .ref q2),(Sum.inr "first", .ref q3),(Sum.inr "second", .ref q4)] (Sum.inr x:Key)=none/\fe (eE aF) x ps=(if x="rec"then(if zE ((ps[3]?).getD .a_)="zero"then .str "zero"else if zE ((ps[3]?).getD .a_)="next"then .str "next"else .a_)else .a_))\/∃(m:Addr)(j:Nat)(y z s':Str),fh [((Sum.inr "app":Key),V.ref q1),(Sum.inr "carry", .ref q2),(Sum.inr "first", .ref q3),(Sum.inr "second", .ref q4)] (Sum.inr x:Key)=some (.ref m)/\X m=some (.tup [.int ((j+1:Nat):Int), .str y])/\dS x= .str s'/\s'.cps.toList[j]?=some 116/\fh [((Sum.inr "app":Key),V.str "fun"),(Sum.inr "carry", .str "like"),(Sum.inr "first", .str "first"),(Sum.inr "second", .str "second")] (Sum.inr x:Key)=some (.str z)/\fe (eE aF) x ps=(if zE ((ps[j]?).getD .a_)=y then .str z else .a_)/\x≠"rec":=by
  rw[abL,abL];unfold fe;rw[if_neg nn];by_cases h1:x="app";·subst h1;exact .inr ⟨q1,0,"fun","fun","tt",by simp,f1,by decide+kernel,by decide+kernel,by simp,by simp,by decide+kernel⟩
  by_cases h2:x="carry";·subst h2;exact .inr ⟨q2,2,"like","like","ktt",by simp[h1],f2,by decide+kernel,by decide+kernel,by simp[h1],by simp[h1],by decide+kernel⟩
  by_cases h3:x="first";·subst h3;exact .inr ⟨q3,0,"pair","first","t",by simp[h1,h2],Y,by decide+kernel,by decide+kernel,by simp[h1,h2],by simp[h1,h2],by decide+kernel⟩
  by_cases h4:x="second";·subst h4;exact .inr ⟨q4,0,"pair","second","t",by simp[h1,h2,h3],Z,by decide+kernel,by decide+kernel,by simp[h1,h2,h3],by simp[h1,h2,h3],by decide+kernel⟩
  ·exact .inl ⟨by simp[h1,h2,h3,h4],by simp[h1,h2,h3,h4]⟩
 refine⟨λbj H'=>bj=[some (.ref a),some (.ref b),some (.str x),some (.ref e)]/\H'=X/\fe (eE aF) x ps=(if x="rec"then(if zE ((ps[3]?).getD .a_)="zero"then .str "zero"else if zE ((ps[3]?).getD .a_)="next"then .str "next"else .a_)else .a_),?_,?_⟩
 ·refine⟨_,rfl,_,rfl,e,_,rfl,l_.k (k:=Sum.inr x) h5,_,rfl,?_⟩;rcases key with⟨kn,n⟩|⟨m,j,y,z,s',T,kq,ks,ki,kz,n,kx⟩;·rw[kn];exact jZ (jZ ⟨rfl,rfl,n⟩)
  rw[T];obtain⟨c0,ws,N,O⟩:=xA W rp5 ks ki;refine lZ ⟨_,rfl,_,rfl,_,rfl,e,_,rfl,T▸l_.k (k:=Sum.inr x) h5,m,_,_,_,rfl,rfl,bU.of kq,aL (j:=0) rfl,a,_,_, .ref c0,rfl,rfl,bU.of R,N,c0,_,_,_,rfl,rfl,bU.of O,aL (j:=0) rfl,_,rfl,_,rfl,e,_,rfl,T▸l_.k (k:=Sum.inr x) h5,m,_,_,_,rfl,rfl,bU.of kq,aL (j:=1) rfl,rfl,_,rfl,?_⟩;refine ba (λch=>?_) (λch=>?_)
  ·have ch:V.str (zE ((ps[j]?).getD .a_))=V.str y:=of_decide_eq_true ch;injection ch with ch;intro U S;have J:=ao S (.dK [((Sum.inr "app":Key),V.str "fun"),(Sum.inr "carry", .str "like"),(Sum.inr "first", .str "first"),(Sum.inr "second", .str "second")]);refine⟨aj,[((Sum.inr "app":Key),V.str "fun"),(Sum.inr "carry", .str "like"),(Sum.inr "first", .str "first"),(Sum.inr "second", .str "second")],rfl,(by show 4<=15;decide),?_⟩;rw[NP,TV];refine⟨_,rfl,U, .str z,rfl,kz▸l_.k (k:=Sum.inr x) aj,?_⟩;have l:=q _ (B.trans J);have F:cI (eE aF) (.tup (.str x::ps))= .str z:=by show fe (eE aF) x ps=_;rw[n,if_pos ch]
   rw[F]at l;exact l
  ·have ch:¬zE ((ps[j]?).getD .a_)=y:=λz=>ch (by rw[z];exact decide_eq_true rfl);refine⟨rfl,rfl,?_⟩;rw[n,if_neg ch,if_neg kx]
 ·rintro bj H'⟨rfl,rfl,n⟩;refine⟨_,rfl,rfl,_,rfl,?_⟩;refine ba (λo=>?_) (λo=>?_)
  ·have o:V.str x=V.str "rec":=of_decide_eq_true o;cases o;rw[if_pos rfl]at n;obtain⟨c0,ws,N,O⟩:=xA (s:="kttt") (i:=3) W rp5 (by decide+kernel) (by decide+kernel);refine⟨_,rfl,a,_,_, .ref c0,rfl,rfl,bU.of R,N,c0,_,_,_,rfl,rfl,bU.of O,aL (j:=0) rfl,(c7 rfl),λU S=>⟨U,(["zero","next"]:List Str).map V.str,rfl, .inr (bU.of aj),rfl,rfl,_,rfl,?_⟩⟩;have J:=ao S (.tup [V.str "zero", .str "next"]);show if(VG (.str (zE ((ps[3]?).getD .a_))) ((["zero","next"]:List Str).map V.str))=true then _ else _;rw[yF];have l:=q _ (B.trans J);have F:cI (eE aF) (.tup (.str "rec"::ps))=_:=n;rw[F]at l;refine ba (λg=>?_) (λg=>?_)
   ·have g:zE ((ps[3]?).getD .a_)∈(["zero","next"]:List Str):=of_decide_eq_true g;refine⟨_,rfl,a,_,_, .ref c0,rfl,rfl,bU.of (J _ _ R),N,c0,_,_,_,rfl,rfl,bU.of (J _ _ O),aL (j:=0) rfl,?_⟩;simp only[kZ,pj,or_false]at g;rcases g with g|g;·rw[g,if_pos rfl]at l;rw[g];exact l
    ·rw[g,if_neg (by decide+kernel),if_pos rfl]at l;rw[g];exact l
   ·have g:¬zE ((ps[3]?).getD .a_)∈(["zero","next"]:List Str):=of_decide_eq_false (Bool.eq_false_iff.mpr g);simp only[kZ,pj,or_false,not_or]at g;rw[if_neg g.1,if_neg g.2]at l;exact l
  ·have o:x≠"rec":=λz=>o (by rw[z];decide+kernel);rw[if_neg o]at n;have l:=q _ B;have F:cI (eE aF) (.tup (.str x::ps))=_:=n;rw[F]at l;exact jZ l
noncomputable abbrev Rp:=List Nat×D
mutual noncomputable def bW(pl:List Nat):D->List Rp| .tup (.str x::ps)=>(pl, .tup (.str x::ps))::(if dX x=true then[]else fi pl 0 ps)|_=>[]noncomputable def fi(pl:List Nat):Nat->List D->List Rp|_,[]=>[]|i,d::ds=>bW (pl++[i]) d++fi pl (i+1) ds end
theorem jX(pl:List Nat)(x:Str)(ps:List D):bW pl (.tup (.str x::ps))=(pl, .tup (.str x::ps))::fi pl 0 (aB x ps):=by
 rw[bW];unfold aB;split;·rw[fi]
 ·rfl
theorem qF(pl:List Nat):∀(ds:List D)(j:Nat),fi pl j ds=((List.range ds.length).map λi=>((pl++[j+i],(ds[i]?).getD .a_):Rp)).flatMap λr=>bW r.1 r.2|[],j=>by rw[fi];rfl|d::ds,j=>by rw[fi,qF pl ds (j+1),bS,List.range_succ_eq_map,ff,List.flatMap_cons,List.map_map];congr 1;congr 1;apply List.map_congr_left;intro i _;show((pl++[j+1+i],(ds[i]?).getD .a_):Rp)=(pl++[j+(i+1)],_);rw[show j+1+i=j+(i+1)by lia];rfl
theorem TM{a:Type}(g:Nat->a)(n:Nat):((List.range n).map λt=>g (n-1-t)).reverse=(List.range n).map g:=by
 apply List.ext_getElem;·simp
 ·intro i h1 h2;have hi:i<n:=by simpa using h2
  rw[List.getElem_reverse,List.getElem_map,List.getElem_map,List.getElem_range,List.getElem_range];simp only[cV,List.length_range];congr 1;lia
mutual theorem kJ:∀(pl:List Nat)(d:D),(bW pl d).length<=aG d
 |pl, .tup (.str x::ps)=>by
  rw[bW,bS];have e:aG (.tup (.str x::ps))=1+aO ps:=by simp[aG,aO]
  rw[e];split;·simp
  ·have :=zJ pl 0 ps;lia
 |pl, .tup []=>by simp[bW]
 |pl, .tup (.a_::_)=>by simp[bW]
 |pl, .tup (.bl _::_)=>by simp[bW]
 |pl, .tup (.int _::_)=>by simp[bW]
 |pl, .tup (.tup _::_)=>by simp[bW]
 |pl, .a_=>by simp[bW]
 |pl, .bl _=>by simp[bW]
 |pl, .int _=>by simp[bW]
 |pl, .str _=>by simp[bW]theorem zJ:∀(pl:List Nat)(j:Nat)(ds:List D),(fi pl j ds).length<=aO ds
 |pl,j,[]=>by simp[fi]
 |pl,j,d::ds=>by
  rw[fi,dZ];have h1:=kJ (pl++[j]) d;have h2:=zJ pl (j+1) ds;have e:aO (d::ds)=aG d+aO ds:=by simp[aO]
  lia end
noncomputable def vD:V->D| .str x=> .str x|_=> .a_
noncomputable def stD(r:Rp):D:= .tup [plD r.1,r.2]
noncomputable def qN(inb:Str->Bool)(r:Rp):D:= .tup [plD r.1,r.2,vD (cI inb r.2)]
theorem Oa{H:Hp}{inb:Str->Bool}{d:D}(h:Wf d):Rep H (vD (cI inb d)) (cI inb d):=by
 obtain⟨k,h⟩:=h;obtain⟨x,ps,rfl⟩:=cG h;show Rep H (vD (fe inb x ps)) (fe inb x ps);have st:∀y:Str,y.length<=1000->Rep H (vD (.str y)) (.str y):=λy a=>⟨rfl,a⟩;have b:Rep H (vD .a_) .a_:=rfl;unfold fe Jp;repeat' split
 all_goals first|exact b|exact st _ (by decide+kernel)
theorem An{H:Hp}:∀{ds:List D}{d:D}{ws:List V},bg H (ds++[d]) ws->∃b y,ws=b++[y]/\bg H ds b/\Rep H d y|[],d,_,⟨v,r,e,q,t⟩=>by subst e;cases(show r=[]from t);exact⟨[],v,rfl,rfl,q⟩|a::ds,d,_,⟨v,r,e,q,t⟩=>by subst e;obtain⟨b,y,rfl,h1,h2⟩:=An t;exact⟨v::b,y,rfl,⟨v,b,rfl,q,h1⟩,h2⟩
def BY:Sp:=λvs H Q _=>∃(d:D)(v:V)(b:Addr)(aF:List (Key×V)),vs=[v, .ref b]/\Rep H d v/\Wf d/\depth d<=75/\aG d<=1000000/\H b=some (.dK aF)/\∀(f:Addr)(fs:List V)(H':Hp),H f=none->aQ H H'->H' f=some (.lst fs)->bg H' ((bW [] d).map (qN (eE aF))) fs->Q (.ref f) H'
structure Wk(H H':Hp)(d:D)(b pf pw:Addr)(inb:Str->Bool)(st fo:List Rp)(ws fs:List V):Prop where
 hw:H' pw=some (.lst ws)
 hf:H' pf=some (.lst fs)
 gY:bg H' (st.map stD) ws
 rf:bg H' (fo.map (qN inb)) fs
 all:fo++st.reverse.flatMap (λr=>bW r.1 r.2)=bW [] d
 ok:∀x∈st,Wf x.2/\x.1.length+depth x.2<=75
 kn:(st.map λr=>aG r.2).sum<=1000000
 sm:aQ H H'
theorem dy:aT ["_law_thing_here","_law_book_here","_law_found","_law_waiting","_law_place","_law_here","_law_kids_here","_law_step","_law_number_here"] ["_law_thing_here","_law_book_here"] (ar jC):=⟨rfl,rfl,rfl,by decide+kernel,rfl,by decide+kernel,by decide+kernel⟩
theorem FE(D:Df K mg "_law_rows" jC ["_law_thing_here","_law_book_here"])(M:Mg mg t)(F0:bx P w K mg bF "_law_rule" (1) ["_law_thing_here","_law_book_here"] yf)(ft:bx P w K mg bF "_law_kids" (1) ["_law_thing_here"] fZ):bx P w K mg bF "_law_rows" (2) ["_law_thing_here","_law_book_here"] BY:=by
 refine D.ok dy (λvs H Q E h=>?_) (λbase f cZ A outer s H vs Q E hr h=>?_);·obtain⟨d,v,b,aF,rfl,_⟩:=h;rfl
 obtain⟨d,v,b,aF,rfl,r,wf,hdp,hkn,hb,q⟩:=h;refine⟨_,(ah (aH (i:=2) dy.nd rfl (cq rfl) (bR ag)) (ah (aH (i:=3) dy.nd rfl (cq rfl) (bR (ae (aE (ae (aE ag) (ae (pv 0) ag))) ag))) (ah (Qy PassesOwn.never (aA lJ (bz bC rfl M.gE eK (ae (pv 3) ag)) ai (aR _)) (ah (Gx (YK PySem.F.plainAttrs_list PySem.F.slot_list_pop PySem.F.type_list_pop X5 (pv 3)) (yn (n:=2) rfl (d4 (bJ (i:=4) dy.nd rfl (cq rfl)) (d4 (bJ (i:=5) dy.nd rfl (cq rfl)) m7)))) (ah (uD (pM PySem.F.plainAttrs_list PySem.F.slot_list_append PySem.F.type_list_append iA (pv 2) (ae (aE (ae (pv 4) (ae (pv 5) (ae (aI F0 hr.m rfl aM (ae (pv 5) (ae (pv 1) ag))) ag)))) ag))) (ah (aH (i:=6) dy.nd rfl (cq rfl) (aI ft hr.m rfl aM (ae (pv 5) ag))) (ak (fk PassesOwn.never rfl (eR rfl M.ia (ae (bz bC rfl M.gE eK (ae (pv 6) ag)) ag)) (bJ (i:=7) dy.nd rfl (cq rfl)) (ah (aH (i:=8) dy.nd rfl (cq rfl) (aJ bH (aJ bH (bz bC rfl M.gE eK (ae (pv 6) ag)) ai) (pv 7))) (ak (uD (pM PySem.F.plainAttrs_list PySem.F.slot_list_append PySem.F.type_list_append iA (pv 3) (ae (aE (ae (aJ vK (pv 4) (aE (ae (pv 8) ag))) (ae (aS bK (pv 6) (pv 8) (λ_ _=>rfl)) ag))) ag))))))))))) (ak (aw (pv 2)))))),?_⟩;try dsimp only[gV,cP]
 refine Et ?_;intro _ _ _ _;refine⟨(c7 rfl),λpf hpf=>?_⟩;have t1:=ao hpf (.lst []);refine⟨(c7 rfl),λq0 e0=>⟨_,rfl,(c7 rfl),λq1 e1=>⟨(c7 rfl),λpw UQ=>?_⟩⟩⟩;have t2:=ao e0 (.tup []);have u:=ao e1 (.tup [V.ref q0,v]);have t4:=ao UQ (.lst [V.ref q1]);have npf:pf≠pw:=aZ (u _ _ (t2 _ _ (show(upd H pf (.lst [])) pf=some (.lst [])from aj))) UQ;have aaZ:H pw=none:=t1.free (t2.free (u.free UQ));have hq0:(upd (upd (upd (upd H pf (.lst [])) q0 (.tup [])) q1 (.tup [V.ref q0,v])) pw (.lst [V.ref q1])) q0=some (.tup []):=t4 _ _ (u _ _ aj);have pQ:(upd (upd (upd (upd H pf (.lst [])) q0 (.tup [])) q1 (.tup [V.ref q0,v])) pw (.lst [V.ref q1])) q1=some (.tup [V.ref q0,v]):=t4 _ _ aj;have hf0:(upd (upd (upd (upd H pf (.lst [])) q0 (.tup [])) q1 (.tup [V.ref q0,v])) pw (.lst [V.ref q1])) pf=some (.lst []):=t4 _ _ (u _ _ (t2 _ _ aj));have hw0:(upd (upd (upd (upd H pf (.lst [])) q0 (.tup [])) q1 (.tup [V.ref q0,v])) pw (.lst [V.ref q1])) pw=some (.lst [V.ref q1]):=aj;have sm0:=t1.trans (t2.trans (u.trans t4));generalize upd (upd (upd (upd H pf (.lst [])) q0 (.tup [])) q1 (.tup [V.ref q0,v])) pw (.lst [V.ref q1])=H0 at hq0 pQ hf0 hw0 sm0⊢;clear t1 t2 u t4 e0 e1 UQ;let Iw:Nat->L2.St->Hp->Prop:=λn C H'=>∃(st fo:List Rp)(ws fs:List V)(U X Y J L:Option V),C=[some v,some (.ref b),some (.ref pf),some (.ref pw),U,X,Y,J,L]/\n=(st.map λr=>aG r.2).sum/\Wk H H' d b pf pw (eE aF) st fo ws fs;refine⟨Iw,⟨_,[([],d)],[],[V.ref q1],[],none,none,none,none,none,rfl,rfl,?_⟩,?_⟩;·refine⟨hw0,hf0,⟨_,_,rfl,⟨q1,_,rfl,pQ,⟨_,_,rfl,⟨q0,[],rfl,hq0,rfl⟩,⟨_,_,rfl,r.mono sm0,rfl⟩⟩⟩,rfl⟩,rfl,by simp,λx hx=>?_,by simpa using hkn,sm0⟩;rw[List.mem_singleton.mp hx];exact⟨wf,by simpa using hdp⟩
 rintro n C S⟨st,fo,ws,fs,U,X,Y,J,L,rfl,rfl,W⟩;have lws:=W.gY.length;rw[cV]at lws;refine⟨_,rfl,pw,_,rfl, .inl (bE.of W.hw),_,_,rfl,rfl,_,rfl,?_⟩;refine ba (λc=>?_) (λc=>?_)
 ·have c:(0:Int)<((ws.length:Nat):Int):=of_decide_eq_true c;have zq:st≠[]:=λz=>by subst z;have h0:ws.length=0:=lws;lia
  obtain⟨p,⟨pl,e⟩,rfl⟩:∃p x,st=p++[x]:=⟨st.dropLast,st.getLast zq,(List.dropLast_concat_getLast zq).symm⟩;have rws:=W.gY;rw[mH,List.map_singleton]at rws;obtain⟨g,y,rfl,ae4,ry⟩:=An rws;obtain⟨wfe,dpe⟩:=W.ok (pl,e) (by simp);have wfe:Wf e:=wfe;have dpe:pl.length+depth e<=75:=dpe;obtain⟨qy,_,rfl,hqy,⟨plv,_,rfl,rpl,⟨G,_,rfl,re,aeV⟩⟩⟩:=ry;cases(show _=[]from aeV);have Yq:=W.kn;rw[mH,List.sum_append]at Yq;have hke:(List.map (λr:Rp=>aG r.2) [(pl,e)]).sum=aG e:=by simp
  rw[hke]at Yq;have T:=W.all;rw[List.reverse_append,List.reverse_singleton,List.singleton_append,List.flatMap_cons]at T;obtain⟨x,ps,k,rfl,Ni,Ha⟩:=jK wfe;have hkk:=jg Ni;rw[hkk.1]at Yq;let Nw:L2.St->Hp->Prop:=λC H'=>∃(st fo:List Rp)(ws fs:List V)(U X Y J L:Option V),C=[some v,some (.ref b),some (.ref pf),some (.ref pw),U,X,Y,J,L]/\(st.map λr=>aG r.2).sum+1=((p++[(pl,KM.D.tup (.str x::ps))]).map λr=>aG r.2).sum/\Wk H H' d b pf pw (eE aF) st fo ws fs;refine⟨Nw,?_,?_⟩;·rintro C H'⟨st,fo,ws,fs,U,X,Y,J,L,rfl,hm,W'⟩;exact⟨_,by lia,st,fo,ws,fs,U,X,Y,J,L,rfl,rfl,W'⟩
  refine Et ?_;intro _ _ _ _;have sm1:aQ H (upd S pw (.lst g)):=eB W.sm aaZ;refine⟨_,rfl, .inl ⟨rfl,_,bE.of W.hw⟩,pw,_, .ref qy,rfl,rfl,W.hw,(by simp),?_⟩;rw[List.dropLast_concat];have nqy:qy≠pw:=λz=>by rw[z,W.hw]at hqy;cases hqy
  have hw2:(upd S pw (.lst g)) pw=some (.lst g):=aj;have hf2:(upd S pw (.lst g)) pf=some (.lst fs):=by rw[aY npf];exact W.hf
  have aa2:(upd S pw (.lst g)) qy=some (.tup [plv,G]):=by rw[aY nqy];exact hqy
  have adg:=ae4.iG (o:= .lst g) W.hw;have rf2:=W.rf.iG (o:= .lst g) W.hw;have aaH:=rpl.iG (o:= .lst g) W.hw;have re2:=re.iG (o:= .lst g) W.hw;generalize upd S pw (.lst g)=H2 at sm1 hw2 hf2 aa2 adg rf2 aaH re2⊢;refine⟨qy,_,rfl,bU.of aa2,rfl,_,_,rfl,_,_,rfl,rfl,?_⟩;refine⟨_,rfl, .inl ⟨rfl,_,bE.of hf2⟩,_,rfl,_,rfl,_,rfl,_,rfl,_,G,b,aF,rfl,re2,wfe,sm1 _ _ hb,λH3 s3=>⟨(c7 rfl),λq3 e3=>?_⟩⟩;have u:=ao e3 (.tup [plv,G,cI (eE aF) (.tup (.str x::ps))]);have m:=s3.trans u;have lf:=rf2.length;rw[cV]at lf;have lfo:fs.length<16777216:=by have h1:=congrArg List.length T;rw[dZ]at h1;have h2:=kJ [] d;lia
  refine⟨pf,_,_,rfl,rfl,m _ _ hf2,(by rw[sizeLine_eq];exact lfo),?_⟩;have hq3:(upd H3 q3 (.tup [plv,G,cI (eE aF) (.tup (.str x::ps))])) q3=some (.tup [plv,G,cI (eE aF) (.tup (.str x::ps))]):=aj;have hf3:=m _ _ hf2;have hw3:=m _ _ hw2;have sm3:=sm1.trans m;have acV:=adg.mono m;have rf3:=rf2.mono m;have Xp:=aaH.mono m;have re3:=re2.mono m;generalize upd H3 q3 (.tup [plv,G,cI (eE aF) (.tup (.str x::ps))])=H4 at hq3 hf3 hw3 sm3 acV rf3 Xp re3⊢;clear m u e3 s3;have XF:Rep H4 (qN (eE aF) (pl, .tup (.str x::ps))) (.ref q3):=⟨q3,_,rfl,hq3,⟨_,_,rfl,Xp,⟨_,_,rfl,re3,⟨_,_,rfl,Oa wfe,rfl⟩⟩⟩⟩;have sm4:aQ H (upd H4 pf (.lst (fs++[V.ref q3]))):=eB sm3 hpf;have hf4:(upd H4 pf (.lst (fs++[V.ref q3]))) pf=some (.lst (fs++[V.ref q3])):=aj;have hw4:(upd H4 pf (.lst (fs++[V.ref q3]))) pw=some (.lst g):=by rw[aY npf.symm];exact hw3
  have aaV:=acV.iG (o:= .lst (fs++[V.ref q3])) hf3;have rf4:=(rf3.append (bg.one XF)).iG (o:= .lst (fs++[V.ref q3])) hf3;have aaN:=Xp.iG (o:= .lst (fs++[V.ref q3])) hf3;have re4:=re3.iG (o:= .lst (fs++[V.ref q3])) hf3;generalize upd H4 pf (.lst (fs++[V.ref q3]))=H5 at sm4 hf4 hw4 aaV rf4 aaN re4⊢;refine⟨_,rfl,x,ps,G,rfl,re4,Ha,λpk us H6 hpk I h6 r6=>?_⟩;have l6:=r6.length;have hk4:=J_ Ni;have npk:pk≠pw:=λz=>by rw[z,hw4]at hpk;cases hpk
  refine⟨_,rfl,pk,_,rfl, .inl (bE.of h6),_,rfl,(by show-(2^62)<=((us.length:Nat):Int);lia),(by show((us.length:Nat):Int)<2^62;lia),?_⟩;obtain⟨pa,pvs,rfl,Sk,rpa⟩:=id aaN;have lpa:=rpa.length;rw[cV]at lpa;have nk:us.length=(aB x ps).length:=l6;have hw6:=I _ _ hw4;have hf6:=I _ _ hf4;have Y5:=I _ _ Sk;have afh:=aaV.mono I;have rf6:=rf4.mono I;have re6:=re4.mono I;have sm6:=sm4.trans I;let EJ:Nat->L2.St->Hp->Prop:=(λj C H'=>∃(R:List V)(sv nv:Option V),C=[some v,some (.ref b),some (.ref pf),some (.ref pw),some (.ref pa),some G,some (.ref pk),sv,nv]/\H' pw=some (.lst R)/\bg H' ((p++(List.range j).map λt=>((pl++[us.length-1-t],((aB x ps)[us.length-1-t]?).getD .a_):Rp)).map stD) R/\bD pw H6 H');refine iw us.length EJ ?_ ?_ ?_;·exact⟨g,J,L,rfl,hw6,by simpa using afh,λ_ _ _ h=>h⟩
  ·rintro j C H7 hj⟨R,sv,nv,rfl,hw7,SV,B⟩;refine⟨hj,?_⟩;rintro x' H7'⟨rfl,rfl⟩;have e0:(0:Int)+(j:Int)=((j:Nat):Int):=by lia
   rw[e0];have h67:=B _ _ npk h6;have adC:=B _ _ (λz=>by rw[z,hw6]at Y5;cases Y5) Y5;obtain⟨F,Ms⟩:∃F,(aB x ps)[us.length-1-j]?=some F:=⟨_,dD (by lia)⟩;obtain⟨ui,Y6,rui⟩:=r6.get Ms;have ad9:=rui.fJ B (bG hw6);have aeY:bg _ (pl.map λi=>KM.D.int (i:Nat)) pvs:=(rpa.mono I).fJ B (bG hw6);refine⟨_,rfl,pk,_,rfl, .inl (bE.of h67),_,_,rfl,rfl,_,rfl,_,_,rfl,rfl,?_⟩;have en:((us.length:Nat):Int)-1-((j:Nat):Int)=((us.length-1-j:Nat):Int):=by lia
   show n8 8 (V.int (((us.length:Nat):Int)-1-((j:Nat):Int))) _ _ _;rw[en];refine⟨_,rfl, .inl ⟨rfl,_,bE.of hw7⟩,_,rfl,_,rfl,(c7 rfl),λq5 e5=>?_⟩;have t5:=ao e5 (.tup [V.int ((us.length-1-j:Nat):Int)]);refine⟨pa,q5,_,_,rfl,rfl,t5 _ _ adC,aj,?_,λN H8 s8 h8=>?_⟩;·rw[List.length_singleton,sizeLine_eq];lia
   have t58:=t5.trans s8;refine⟨_,rfl,_,rfl,pk,_,_,ui,rfl,rfl,bE.of (t58 _ _ h67),aL Y6,(c7 rfl),λO e7=>?_⟩;have t9:=ao e7 (.tup [V.ref N,ui]);have Z:=t58.trans t9;have lw7:=SV.length;rw[cV,dZ,cV,List.length_range]at lw7;have afq:p.length<=1000000:=by
    have h1:∀l:List Rp,(∀x∈l,Wf x.2)->l.length<=(l.map λr=>aG r.2).sum:=λl=>by
     induction l with
      |nil=>intro _;exact fW _
      |cons a l ih=>
       intro h;have h2:=ih λx hx=>h x (eA _ hx);obtain⟨k',FQ⟩:=h a eD;obtain⟨x',ps',e'⟩:=cG FQ;have h3:1<=aG a.2:=by rw[e'];simp only[aG];lia
       rw[ff,List.sum_cons,bS];lia
    have :=h1 p λx hx=>(W.ok x (oU _ hx)).1;lia
   refine⟨pw,R,_,rfl,rfl,Z _ _ hw7,(by rw[sizeLine_eq];lia),?_⟩;have hq7:(upd H8 O (.tup [V.ref N,ui])) O=some (.tup [V.ref N,ui]):=aj;have h89:=t9 _ _ h8;have aeW:Rep (upd H8 O (.tup [V.ref N,ui])) (plD (pl++[us.length-1-j])) (.ref N):=by refine⟨N,_,rfl,h89,?_⟩;rw[mH];exact(aeY.mono Z).append ⟨_,_,rfl,rfl,rfl⟩
   have aek:Rep (upd H8 O (.tup [V.ref N,ui])) (stD (pl++[us.length-1-j],F)) (.ref O):=⟨O,_,rfl,hq7,⟨_,_,rfl,aeW,⟨_,_,rfl,ad9.mono Z,rfl⟩⟩⟩;have adE:=(SV.mono Z).append (bg.one aek);refine⟨R++[V.ref O],_,_,rfl,aj,?_,B.trans (Z.x.trans (bD.upd _))⟩;have el:(p++(List.range (j+1)).map λt=>((pl++[us.length-1-t],((aB x ps)[us.length-1-t]?).getD .a_):Rp)).map stD=(p++(List.range j).map λt=>((pl++[us.length-1-t],((aB x ps)[us.length-1-t]?).getD .a_):Rp)).map stD++[stD (pl++[us.length-1-j],F)]:=by rw[List.range_succ];simp[Ms]
   rw[el];exact adE.iG (Z _ _ hw7)
  ·rintro C H7⟨R,sv,nv,rfl,hw7,SV,B⟩;refine⟨bN _,?_⟩;have abF:((List.range us.length).map λt=>((pl++[us.length-1-t],((aB x ps)[us.length-1-t]?).getD .a_):Rp)).reverse=(List.range us.length).map λi=>((pl++[i],((aB x ps)[i]?).getD .a_):Rp):=TM (λi=>((pl++[i],((aB x ps)[i]?).getD .a_):Rp)) us.length;have abt:(((List.range us.length).map λt=>((pl++[us.length-1-t],((aB x ps)[us.length-1-t]?).getD .a_):Rp)).map (λr=>aG r.2)).sum=((aB x ps).map aG).sum:=by rw[<-List.sum_reverse,<-List.map_reverse,abF,List.map_map,nk];exact congrArg List.sum (LI aG .a_ (aB x ps))
   refine⟨p++(List.range us.length).map λt=>((pl++[us.length-1-t],((aB x ps)[us.length-1-t]?).getD .a_):Rp),fo++[(pl, .tup (.str x::ps))],R,fs++[V.ref q3],_,_,_,_,_,rfl,?_,⟨hw7,B _ _ npf hf6,SV,?_,?_,?_,?_,?_⟩⟩
   ·rw[mH,List.sum_append,abt,mH,List.sum_append];have e1:(List.map (λr:Rp=>aG r.2) [(pl,KM.D.tup (.str x::ps))]).sum=aG (.tup (.str x::ps)):=by simp
    rw[e1,hkk.1];lia
   ·rw[mH,List.map_singleton];exact rf6.fJ B (bG hw6)
   ·rw[<-T,List.reverse_append,List.flatMap_append,abF,jX,qF,nk];simp
   ·intro x' Yk;rcases List.mem_append.mp Yk with h|h;·exact W.ok x' (oU _ h)
    ·obtain⟨i,hi,rfl⟩:=List.mem_map.mp h;have hi:=List.mem_range.mp hi;obtain⟨F,Ms⟩:∃F,(aB x ps)[us.length-1-i]?=some F:=⟨_,dD (by lia)⟩;obtain⟨w1,w2⟩:=jJ Ni Ms;rw[Ms];refine⟨w1,?_⟩;rw[dZ,List.length_singleton];show pl.length+1+depth F<=75;lia
   ·rw[mH,List.sum_append,abt];lia
   ·exactλb' o' h'=>B _ _ (aZ h' aaZ) (sm6 _ _ h')
 ·have c:¬(0:Int)<((ws.length:Nat):Int):=of_decide_eq_false (Bool.eq_false_iff.mpr c);have Lz:st=[]:=List.length_eq_zero_iff.mp (by lia);subst Lz;have T:=W.all;rw[List.reverse_nil,List.flatMap_nil,lV]at T;have rf:=W.rf;rw[T]at rf;exact⟨_,rfl,q pf fs S hpf W.sm W.hf rf⟩
end K24
end
section
namespace L3
open PySem PySem.Spec PyProof.Rows L2 KM
noncomputable def eqB(p:Prop):Bool:=@decide p (Classical.propDecidable p)
theorem m4{p:Prop}(h:p):eqB p=true:=@decide_eq_true p (Classical.propDecidable p) h
theorem fR{p:Prop}(h:¬p):eqB p=false:=@decide_eq_false p (Classical.propDecidable p) h
theorem ZZ{p:Prop}(h:eqB p=true):p:=@of_decide_eq_true p (Classical.propDecidable p) h
mutual/--no truths within -/noncomputable def Ng:D->Bool| .bl _=>false| .tup ds=>Ul ds|_=>true noncomputable def Ul:List D->Bool|[]=>true|d::ds=>Ng d&&Ul ds end
mutual theorem Li{H:Hp}:∀{d e:D}{v:V},Rep H d v->Rep H e v->d=e
 | .a_,e,v,h,h'=>by cases(show v=V.a_ from h);cases e with|a_=>rfl|bl b=>cases(show V.a_=V.bl b from h')|int i=>cases(show V.a_=V.int i from h')|str x=>cases(show V.a_=V.str x from h'.1)|tup es=>obtain⟨a,vs,e,_⟩:=h';cases e
 | .bl c,e,v,h,h'=>by cases(show v=V.bl c from h);cases e with|a_=>cases(show V.bl c=V.a_ from h')|bl b=>cases(show V.bl c=V.bl b from h');rfl|int i=>cases(show V.bl c=V.int i from h')|str x=>cases(show V.bl c=V.str x from h'.1)|tup es=>obtain⟨a,vs,e,_⟩:=h';cases e
 | .int c,e,v,h,h'=>by cases(show v=V.int c from h);cases e with|a_=>cases(show V.int c=V.a_ from h')|bl b=>cases(show V.int c=V.bl b from h')|int i=>cases(show V.int c=V.int i from h');rfl|str x=>cases(show V.int c=V.str x from h'.1)|tup es=>obtain⟨a,vs,e,_⟩:=h';cases e
 | .str c,e,v,h,h'=>by cases(show v=V.str c from h.1);cases e with|a_=>cases(show V.str c=V.a_ from h')|bl b=>cases(show V.str c=V.bl b from h')|int i=>cases(show V.str c=V.int i from h')|str x=>cases(show V.str c=V.str x from h'.1);rfl|tup es=>obtain⟨a,vs,e,_⟩:=h';cases e
 | .tup ds,e,v,h,h'=>by obtain⟨a,vs,rfl,ha,r⟩:=h;cases e with|a_=>cases(show V.ref a=V.a_ from h')|bl b=>cases(show V.ref a=V.bl b from h')|int i=>cases(show V.ref a=V.int i from h')|str x=>cases(show V.ref a=V.str x from h'.1)|tup es=>obtain⟨a',vs',e,ha',r'⟩:=h';cases e;rw[ha]at ha';cases ha';rw[DE r r']theorem DE{H:Hp}:∀{ds es:List D}{vs:List V},bg H ds vs->bg H es vs->ds=es
 |[],es,vs,h,h'=>by cases(show vs=[]from h);cases es with|nil=>rfl|cons e es=>obtain⟨v,r,z,_⟩:=h';cases z
 |d::ds,es,vs,h,h'=>by obtain⟨v,r,rfl,q,t⟩:=h;cases es with|nil=>cases(show v::r=[]from h')|cons e es=>obtain⟨v',r',z,q',t'⟩:=h';cases z;rw[Li q q',DE t t']end
theorem OS(ds es:List D):((List.range (min ds.length es.length)).all (λj=>eqB (ds[j]?=es[j]?))&&(ds.length==es.length))=eqB (D.tup ds=D.tup es):=by
 by_cases h:ds=es;·subst h;rw[m4 rfl,cW];exact⟨List.all_eq_true.mpr λj _=>m4 rfl,by simp⟩
 ·rw[fR (λz=>h (by injection z))];by_cases hl:ds.length=es.length
  ·have :¬(List.range (min ds.length es.length)).all (λj=>eqB (ds[j]?=es[j]?))=true:=λz=>h (List.ext_getElem? λi=>by
    by_cases hi:i<ds.length;·exact ZZ (List.all_eq_true.mp z i (List.mem_range.mpr (by lia)))
    ·rw[List.getElem?_eq_none (by lia),List.getElem?_eq_none (by lia)]);rw[Bool.eq_false_iff.mpr this,Bool.false_and]
  ·have :(ds.length==es.length)=false:=by simpa using hl
   rw[this,Bool.and_false]
section
variable{X:Cx}{pins:List (Addr×Obj)}{σ:L2.St}{H:Hp}{s:Shared}
mutual theorem Fi(I:Inv X pins σ H s):∀(d e:D)(A:Around)(v u:V)(a b:Value),Rep H d v->Rep H e u->L2.RelV v a->L2.RelV u b->Ng d=true->Ng e=true->A.units+depth d<cLine->SeqAt.EqAt A s a b (eqB (d=e))
 | .a_,e,A,v,u,a,b,r,r',k,k',n,n',hu=>by cases(show v=V.a_ from r);cases(show a=Value.none from k);cases e with|a_=>cases(show u=V.a_ from r');cases(show b=Value.none from k');rw[m4 rfl];exact SeqAt.EqAt.same _|bl c=>cases n'|int i=>cases(show u=V.int i from r');obtain⟨t,rfl⟩:=k';rw[fR (λz=>by cases z)];exact SeqAt.EqAt.none_int i t|str x=>cases(show u=V.str x from r'.1);obtain⟨t,rfl⟩:=k';rw[fR (λz=>by cases z)];exact SeqAt.EqAt.none_str x t|tup es=>obtain⟨p,us,rfl,hp,rs⟩:=r';cases(show b=Value.ref p from k');obtain⟨aW,rv,pt,_⟩:=I.tuple (bU.of (K:=X.K) hp);rw[fR (λz=>by cases z)];exact SeqAt.EqAt.none_tuple pt (by lia)
 | .bl _,_,_,_,_,_,_,_,_,_,_,n,_,_=>by cases n
 | .int c,e,A,v,u,a,b,r,r',k,k',n,n',hu=>by
  cases(show v=V.int c from r);obtain⟨t0,rfl⟩:=k;cases e with
   |a_=>cases(show u=V.a_ from r');cases(show b=Value.none from k');rw[fR (λz=>by cases z)];exact SeqAt.EqAt.int_none c t0
   |bl c=>cases n'
   |int i=>
    cases(show u=V.int i from r');obtain⟨t,rfl⟩:=k';have :eqB (D.int c=D.int i)=(c==i):=by
     by_cases h:c=i;·subst h;rw[m4 rfl];simp
     ·rw[fR (λz=>h (by injection z))];simp[h]
    rw[this];exact SeqAt.EqAt.int_int c t0 i t
   |str x=>cases(show u=V.str x from r'.1);obtain⟨t,rfl⟩:=k';rw[fR (λz=>by cases z)];exact SeqAt.EqAt.int_str c t0 x t
   |tup es=>obtain⟨p,us,rfl,hp,rs⟩:=r';cases(show b=Value.ref p from k');obtain⟨aW,rv,pt,_⟩:=I.tuple (bU.of (K:=X.K) hp);rw[fR (λz=>by cases z)];exact SeqAt.EqAt.int_tuple c t0 pt (by lia)
 | .str c,e,A,v,u,a,b,r,r',k,k',n,n',hu=>by
  cases(show v=V.str c from r.1);obtain⟨t0,rfl⟩:=k;cases e with
   |a_=>cases(show u=V.a_ from r');cases(show b=Value.none from k');rw[fR (λz=>by cases z)];exact SeqAt.EqAt.str_none c t0
   |bl c=>cases n'
   |int i=>cases(show u=V.int i from r');obtain⟨t,rfl⟩:=k';rw[fR (λz=>by cases z)];exact SeqAt.EqAt.str_int c t0 i t
   |str x=>
    cases(show u=V.str x from r'.1);obtain⟨t,rfl⟩:=k';have :eqB (D.str c=D.str x)=(c==x):=by
     by_cases h:c=x;·subst h;rw[m4 rfl];simp
     ·rw[fR (λz=>h (by injection z))];simp[h]
    rw[this];exact SeqAt.EqAt.str_str c t0 x t
   |tup es=>obtain⟨p,us,rfl,hp,rs⟩:=r';cases(show b=Value.ref p from k');obtain⟨aW,rv,pt,_⟩:=I.tuple (bU.of (K:=X.K) hp);rw[fR (λz=>by cases z)];exact SeqAt.EqAt.str_tuple c t0 pt (by lia)
 | .tup ds,e,A,v,u,a,b,r,r',k,k',n,n',hu=>by
  obtain⟨q,vs,rfl,hq,rd⟩:=id r;cases(show a=Value.ref q from k);obtain⟨aW,rv,pt,_⟩:=I.tuple (bU.of (K:=X.K) hq);have Wl:A.units<cLine:=by lia
  cases e with
   |a_=>cases(show u=V.a_ from r');cases(show b=Value.none from k');rw[fR (λz=>by cases z)];exact SeqAt.EqAt.tuple_none pt Wl
   |bl c=>cases n'
   |int i=>cases(show u=V.int i from r');obtain⟨t,rfl⟩:=k';rw[fR (λz=>by cases z)];exact SeqAt.EqAt.tuple_int i t pt Wl
   |str x=>cases(show u=V.str x from r'.1);obtain⟨t,rfl⟩:=k';rw[fR (λz=>by cases z)];exact SeqAt.EqAt.tuple_str x t pt Wl
   |tup es=>
    obtain⟨p,us,rfl,hp,re⟩:=id r';cases(show b=Value.ref p from k');obtain⟨iz,Lp,Tq,_⟩:=I.tuple (bU.of (K:=X.K) hp);by_cases WZ:q=p;·subst WZ;rw[m4 (Li r r')];exact SeqAt.EqAt.same _
    ·have l1:=rv.length;have l2:=Lp.length;have l3:=rd.length;have l4:=re.length;have hd:depth (.tup ds)=1+aN ds:=by simp[depth]
     rw[<-OS];have s1:aW.toArray.size=ds.length:=by rw[c8];lia
     have s2:iz.toArray.size=es.length:=by rw[c8];lia
     have :=SeqAt.EqAt.of_refs WZ (SeqAt.RcAt.tuples (A:=A) pt Tq Wl (e:=λj=>eqB (ds[j]?=es[j]?)) λj h1 h2=>by have :=zL I ds es A.in1 vs us aW iz rd re rv Lp n n' (by show A.units+1+aN ds<cLine;lia) j (by simpa using h1) (by simpa using h2);simpa using this);rw[s1,s2]at this;exact this theorem zL(I:Inv X pins σ H s):∀(ds es:List D)(A:Around)(vs us:List V)(aW iz:List Value),bg H ds vs->bg H es us->Vals vs aW->Vals us iz->Ul ds=true->Ul es=true->A.units+aN ds<cLine->∀(j:Nat)(h1:j<aW.length)(h2:j<iz.length),SeqAt.EqAt A s aW[j] iz[j] (eqB (ds[j]?=es[j]?))
 |[],es,A,vs,us,aW,iz,r,r',k,k',n,n',hu,j,h1,h2=>by cases(show vs=[]from r);cases k;exact absurd h1 (Nat.not_lt_zero _)
 |d::ds,[],A,vs,us,aW,iz,r,r',k,k',n,n',hu,j,h1,h2=>by cases(show us=[]from r');cases k';exact absurd h2 (Nat.not_lt_zero _)
 |d::ds,e::es,A,vs,us,aW,iz,r,r',k,k',n,n',hu,j,h1,h2=>by
  obtain⟨v,vs,rfl,q,t⟩:=r;obtain⟨u,us,rfl,q',t'⟩:=r';have n:(Ng d&&Ul ds)=true:=n;have n':(Ng e&&Ul es)=true:=n';rw[cW]at n n';have hd:aN (d::ds)=max (depth d) (aN ds):=by simp[aN]
  cases k with
   |cons k1 k2=>
    cases k' with
     |cons k1' k2'=>
      cases j with
       |zero=>
        have :=Fi I d e A v u _ _ q q' k1 k1' n.1 n'.1 (by lia);have e1:eqB ((d::ds)[0]?=(e::es)[0]?)=eqB (d=e):=by
         by_cases h:d=e;·rw[m4 h,m4 (by rw[h];rfl)]
         ·rw[fR h,fR (λz=>h (by simpa using z))]
        rw[e1];exact this
       |succ j=>exact zL I ds es A vs us _ _ t t' k2 k2' n.2 n'.2 (by lia) j (by simpa using h1) (by simpa using h2)end
end
noncomputable def M0(c:Bool):Value->Bool| .bool b=>b==c|_=>false
theorem yh:∀{bs:List Bool}{a:List Value},Vals (bs.map V.bl) a->a=bs.map Value.bool|[],_, .nil=>rfl|b::bs,_, .cons h r=>by rw[show _=Value.bool b from h,yh r];rfl
theorem Kl{A:Around}{s:Shared}(c:Bool)(bs:List Bool):∀y,y∈(bs.map Value.bool).toArray->SeqAt.EqAt A s y (.bool c) (M0 c y):=λy h=>by
 have h:y∈bs.map Value.bool:=by simpa using h
 obtain⟨b,_,rfl⟩:=List.mem_map.mp h;exact SeqAt.EqAt.bool_bool b c
noncomputable def Sm(K:PySem.W.Frag):V->List V->Hp->VK->Prop:=λx vs H Q=>∃(l:Addr)(bs:List Bool)(c:Bool),x= .ref l/\vs=[.bl c]/\bE K H l (bs.map V.bl)/\Q (.int (bs.count c:Nat)) H
theorem MV{X:Cx}:MtR X "list.count" (Sm X.K):=by
 intro pins s σ H x vs v us Q I f e h;obtain⟨l,bs,c,rfl,rfl,hq,q⟩:=h;cases f;obtain⟨u,rfl,d⟩:=e.one;cases(show u=Value.bool c from d);obtain⟨i,r,pl,g⟩:=I.list hq;cases yh r;obtain⟨⟨cls,b,data,sl⟩,a,hc,n,hd⟩:=id pl.isList;simp only at hc hd;subst hc hd;refine call_meets PySem.F.slot_list_count ⟨_,a,rfl⟩ PySem.F.entry_list_count (PySem.F.args_list_count_2 _ _) (SeqAt.list_countAt l (bs.map Value.bool).toArray n b sl (.bool c) (M0 c)) ⟨a,Kl c bs,⟨.int (bs.count c:Nat),H,I.tok _,⟨s.toks,?_⟩,q⟩⟩;have :(bs.map Value.bool).countP (M0 c)=bs.count c:=by rw[List.countP_map];rfl
 rw[List.toList_toArray,this]
theorem yj{k:Bool}:∀{ns:List Bool}{j:Nat},j<ns.idxOf k->∀(h2:j<ns.length),(ns[j]==k)=false
 |n::r,0,h,_=>by
  by_cases e:n=k;·subst e;simp at h
  ·simpa using e
 |n::r,j+1,h,h2=>by
  by_cases e:n=k;·subst e;simp at h
  ·have hb:(n==k)=false:=by simpa using e
   have h':j<r.idxOf k:=by rw[List.idxOf_cons,hb]at h;exact Nat.lt_of_succ_lt_succ h
   exact yj h' (Nat.lt_of_succ_lt_succ h2)
noncomputable def TJ(K:PySem.W.Frag):V->List V->Hp->VK->Prop:=λx vs H Q=>∃(l:Addr)(bs:List Bool)(c:Bool),x= .ref l/\vs=[.bl c]/\bE K H l (bs.map V.bl)/\c∈bs/\bs.length<=100000/\Q (.int (bs.idxOf c:Nat)) H
theorem MI{X:Cx}:MtR X "list.index" (TJ X.K):=by
 intro pins s σ H x vs v us Q I o m h;obtain⟨l,bs,c,rfl,rfl,hq,hc,hl,q⟩:=h;cases o;obtain⟨u,rfl,k⟩:=m.one;cases(show u=Value.bool c from k);obtain⟨t,r,pl,p⟩:=I.list hq;cases yh r;obtain⟨⟨cls,d,data,sl⟩,b,a,n,hd⟩:=id pl.isList;simp only at a hd;subst a hd;have e:bs.idxOf c<bs.length:=List.idxOf_lt_length_iff.mpr hc;refine call_meets PySem.F.slot_list_index ⟨_,b,rfl⟩ PySem.F.entry_list_index (PySem.F.args_list_index_2 _ _) (SeqAt.list_indexAt l (bs.map Value.bool).toArray n d sl (.bool c) (M0 c) (bs.idxOf c) (by simpa using e) (by lia) ?_ ?_) ⟨b,Kl c bs,⟨.int (bs.idxOf c:Nat),H,I.tok _,⟨_,rfl⟩,q⟩⟩;·simp[M0]
 ·intro j g i;have f:j<bs.length:=by simpa using g
  have :(bs[j]==c)=false:=yj i f;simpa[M0]using this
inductive DX|d(x:D)|tup(xs:List DX)|lst(xs:List DX)
mutual noncomputable def OG(H:Hp):DX->V->Prop| .d x,v=>Rep H x v| .tup xs,v=>∃a vs,v= .ref a/\H a=some (.tup vs)/\gd H xs vs| .lst xs,v=>∃a vs,v= .ref a/\H a=some (.lst vs)/\gd H xs vs noncomputable def gd(H:Hp):List DX->List V->Prop|[],vs=>vs=[]|x::xs,vs=>∃v r,vs=v::r/\OG H x v/\gd H xs r end
mutual noncomputable def nbX:DX->Bool| .d x=>Ng x| .tup xs=>MM xs| .lst xs=>MM xs noncomputable def MM:List DX->Bool|[]=>true|x::xs=>nbX x&&MM xs end
mutual noncomputable def WK:DX->Nat| .d x=>depth x| .tup xs=>1+mh xs| .lst xs=>1+mh xs noncomputable def mh:List DX->Nat|[]=>0|x::xs=>max (WK x) (mh xs)end
theorem gd.length{H:Hp}:∀{xs:List DX}{vs:List V},gd H xs vs->vs.length=xs.length|[],vs,h=>by rw[show vs=[]from h];rfl|x::xs,_,⟨v,r,e,_,h⟩=>by rw[e,bS,bS,gd.length h]
section
variable{X:Cx}{pins:List (Addr×Obj)}{σ:L2.St}{H:Hp}{s:Shared}
mutual theorem eqX(I:Inv X pins σ H s):∀(x:DX)(A:Around)(v u:V)(a b:Value),OG H x v->OG H x u->L2.RelV v a->L2.RelV u b->nbX x=true->A.units+WK x<cLine->SeqAt.EqAt A s a b true
 | .d x,A,v,u,a,b,r,r',k,k',n,hu=>by have :=Fi I x x A v u a b r r' k k' n n hu;rw[m4 rfl]at this;exact this
 | .tup xs,A,v,u,a,b,r,r',k,k',n,hu=>by
  obtain⟨q,vs,rfl,hq,rd⟩:=r;obtain⟨p,us,rfl,hp,re⟩:=r';cases(show a=Value.ref q from k);cases(show b=Value.ref p from k');obtain⟨aW,rv,pt,_⟩:=I.tuple (bU.of (K:=X.K) hq);obtain⟨iz,Lp,Tq,_⟩:=I.tuple (bU.of (K:=X.K) hp);have hd:WK (.tup xs)=1+mh xs:=by simp[WK]
  by_cases WZ:q=p;·subst WZ;exact SeqAt.EqAt.same _
  ·have l1:=rv.length;have l2:=Lp.length;have l3:=gd.length rd;have l4:=gd.length re;have :=SeqAt.EqAt.of_refs WZ (SeqAt.RcAt.tuples (A:=A) pt Tq (by lia) (e:=λ_=>true) λj h1 h2=>by have :=NB I xs A.in1 vs us aW iz rd re rv Lp n (by show A.units+1+mh xs<cLine;lia) j (by simpa using h1) (by simpa using h2);simpa using this);have e:((List.range (min aW.toArray.size iz.toArray.size)).all (λ_=>true)&&aW.toArray.size==iz.toArray.size)=true:=by rw[cW];refine⟨by simp,?_⟩;simp only[c8,beq_iff_eq];lia
   rw[e]at this;exact this
 | .lst xs,A,v,u,a,b,r,r',k,k',n,hu=>by
  obtain⟨q,vs,rfl,hq,rd⟩:=r;obtain⟨p,us,rfl,hp,re⟩:=r';cases(show a=Value.ref q from k);cases(show b=Value.ref p from k');obtain⟨aW,rv,pt,_⟩:=I.list (bE.of (K:=X.K) hq);obtain⟨iz,Lp,Tq,_⟩:=I.list (bE.of (K:=X.K) hp);have hd:WK (.lst xs)=1+mh xs:=by simp[WK]
  by_cases WZ:q=p;·subst WZ;exact SeqAt.EqAt.same _
  ·have l1:=rv.length;have l2:=Lp.length;have l3:=gd.length rd;have l4:=gd.length re;have :=SeqAt.EqAt.of_refs WZ (SeqAt.RcAt.lists (A:=A) pt.isList Tq.isList (by simp only[c8];lia) (by lia) (e:=λ_=>true) λj h1 h2=>by have :=NB I xs A.in1 vs us aW iz rd re rv Lp n (by show A.units+1+mh xs<cLine;lia) j (by simpa using h1) (by simpa using h2);simpa using this);have e:((List.range aW.toArray.size).all (λ_=>true))=true:=by simp
   rw[e]at this;exact this theorem NB(I:Inv X pins σ H s):∀(xs:List DX)(A:Around)(vs us:List V)(aW iz:List Value),gd H xs vs->gd H xs us->Vals vs aW->Vals us iz->MM xs=true->A.units+mh xs<cLine->∀(j:Nat)(h1:j<aW.length)(h2:j<iz.length),SeqAt.EqAt A s aW[j] iz[j] true
 |[],A,vs,us,aW,iz,r,r',k,k',n,hu,j,h1,h2=>by cases(show vs=[]from r);cases k;exact absurd h1 (Nat.not_lt_zero _)
 |x::xs,A,vs,us,aW,iz,r,r',k,k',n,hu,j,h1,h2=>by
  obtain⟨v,vs,rfl,q,t⟩:=r;obtain⟨u,us,rfl,q',t'⟩:=r';have n:(nbX x&&MM xs)=true:=n;rw[cW]at n;have hd:mh (x::xs)=max (WK x) (mh xs):=by simp[mh]
  cases k with|cons k1 k2=>cases k' with|cons k1' k2'=>cases j with|zero=>exact eqX I x A v u _ _ q q' k1 k1' n.1 (by lia)|succ j=>exact NB I xs A vs us _ _ t t' k2 k2' n.2 (by lia) j (by simpa using h1) (by simpa using h2)end
end
noncomputable def AO(z:Bool):R2:=λx y H Q=>∃xs:List DX,OG H (.tup xs) x/\OG H (.tup xs) y/\MM xs=true/\mh xs<=80/\Q (.bl z) H
theorem Zt{X:Cx}(m:X.A.units+84<cLine):ke X (compareOp .Eq) (AO true):=by
 intro pins s σ H x y v u Q I k l h;obtain⟨xs,⟨q,vs,rfl,hq,rd⟩,⟨p,us,rfl,d,a⟩,n,hd,h⟩:=h;cases k;cases l;obtain⟨f,b,pt,_⟩:=I.tuple (bU.of (K:=X.K) hq);obtain⟨g,c,i,_⟩:=I.tuple (bU.of (K:=X.K) d);have o:=b.length;have r:=c.length;have t:=gd.length rd;have w:=gd.length a;refine SeqAt.eq_tupleAt pt i (e:=λ_=>true) (by lia) (λj h1 h2=>?_) ⟨.bl true,H,I,?_,h⟩;·have :=NB I xs X.A.in1 vs us f g rd a b c n (by show X.A.units+1+mh xs<cLine;lia) j (by simpa using h1) (by simpa using h2);simpa using this
 ·show Value.bool _=Value.bool true;congr 1;rw[cW];refine⟨by simp,?_⟩;simp only[c8,beq_iff_eq];lia
theorem GO{X:Cx}(m:X.A.units+84<cLine):ke X (compareOp .NotEq) (AO false):=by
 intro pins s σ H x y v u Q I k l h;obtain⟨xs,⟨q,vs,rfl,hq,rd⟩,⟨p,us,rfl,g,c⟩,n,hd,h⟩:=h;cases k;cases l;obtain⟨a,d,pt,_⟩:=I.tuple (bU.of (K:=X.K) hq);obtain⟨b,f,i,_⟩:=I.tuple (bU.of (K:=X.K) g);have o:=d.length;have r:=f.length;have t:=gd.length rd;have w:=gd.length c;refine SeqAt.RcNeAt.tuples pt i (e:=λ_=>true) (by lia) (λj h1 h2=>?_) _ _ _ _ ⟨.bl false,H,I,?_,h⟩;·have :=NB I xs X.A.in1 vs us a b rd c d f n (by show X.A.units+1+mh xs<cLine;lia) j (by simpa using h1) (by simpa using h2);simpa using this
 ·have e:((List.range (min a.toArray.size b.toArray.size)).all (λ_=>true)&&a.toArray.size==b.toArray.size)=true:=by rw[cW];refine⟨by simp,?_⟩;simp only[c8,beq_iff_eq];lia
  show Value.bool _=Value.bool false;congr 1;rw[e];rfl
noncomputable def aa3(sp:Sp)(t:TA)(c:V):TB:=λD G σ H=>t σ H λvs d=>sp vs d (λx a=>∀p,a p=none->D.rt (.ref p) (upd a p (.tup [c,x]))) λb _ a=>∃C,b= .ref C/\G C σ a
theorem So{X:Cx}{x:Str}{k:Nat}{ps:List Str}{sp:Sp}{e:Expr}{es:List Expr}{t:TA}{y:Str}{w}{f:Nat}{p a pos' g q:Pos}(F:bx X.prog X.w X.K X.mg (f9 X.prog X.w) x k ps sp)(n:da k X.A)(l:Gl X x)(o:X.ex=[])(ha:PA X.Nc (e::es) t)(i:(x==("__debug__":Str))=false:=by decide)(j:starEach (e::es) X.env=(false,eval e X.env)::starEach es X.env:=by rfl)(m:(backTo a (starEach es X.env)).any (·.1)=false:=by rfl)(hc:X.calm=true:=by rfl):PB X [.Return (some (.Tuple [.Constant (.str y) f g, .Call (.Name x p) (e::es) [] a] w q)) pos'] (aa3 sp t (.str y)):=by intro pins s σ H D G I h;refine wpAny_execs_cons (wpAny_Return_some (wpAny_Tuple_spliced ?_));refine Calls.spliced_cons ?_;show wpAny _ _ (eval (.Constant (.str y) f g) X.env) _ _ s;refine Calls.Constant_str ?_;show wpAny _ _ (spliced [(false,eval (.Call (.Name x p) (e::es) [] a) X.env)]) _ _ _;refine Calls.spliced_cons (b9 (QF F n l o ha i j m hc (I.tok _) h) λv s1⟨z,c,d,r,q1⟩=>Calls.spliced_nil ⟨by show 2<=sizeLine;decide,?_⟩);have hf:c s1.heap.objs.size=none:=d.cj.fresh (bN _);refine⟨.ref s1.heap.objs.size,σ,upd c s1.heap.objs.size (.tup [.str y,z]),d.laid (t':=s1.toks) (λb u e=>cf _ e) (bN _) ?_,rfl,q1 _ hf⟩;exact⟨(c7 rfl),[.str y s.toks,v], .cons ⟨_,rfl⟩ (.cons r .nil),⟨_,gj _ rfl,rfl,_,rfl⟩⟩
section
variable{X:Cx}{tg:Expr}
theorem aar{l:Expr}{a b:TI}(ha:PI X tg l a)(hb:PI X tg l b):PI X tg l (λσ H R=>a σ H R\/b σ H R):=by
 intro pins s σ H R I h;rcases h with h|h;·exact ha pins s σ H R I h
 ·exact hb pins s σ H R I h
end
def Wlk(J:It)(H:Hp)(us:List V):Prop:=(∀i H',aQ H H'->i<us.length->J.go i H'/\∀x a,J.yW i H' x a->a=H'/\us[i]?=some x)/\∀H',aQ H H'->J.stop us.length H'
theorem DO{K:PySem.W.Frag}{H:Hp}{a:Addr}{us:List V}(h:H a=some (.lst us)):Wlk (Itl K a) H us:=by refine⟨λi H' s hi=>⟨⟨us,us[i],bE.of (s _ _ h),dD hi⟩,?_⟩,λH' s=>⟨us,bE.of (s _ _ h),bN _⟩⟩;rintro x c⟨rfl,b⟩;exact⟨rfl,b us (bE.of (s _ _ h))⟩
theorem Uc{K:PySem.W.Frag}{H:Hp}{a:Addr}{us:List V}(h:H a=some (.tup us)):Wlk (Itt K a) H us:=by refine⟨λi H' s hi=>⟨⟨us,us[i],bU.of (s _ _ h),dD hi⟩,?_⟩,λH' s=>⟨us,bU.of (s _ _ h),bN _⟩⟩;rintro x c⟨rfl,b⟩;exact⟨rfl,b us (bU.of (s _ _ h))⟩
theorem Ih{J:It}{g:TG}{tb:TS}{D:Ends}{σ:L2.St}{H:Hp}{us:List V}(W:Wlk J H us)(Pv:Nat->L2.St->Hp->Prop)(f:Pv 0 σ H)(c:∀i a H',Pv i a H'->aQ H H')(h:∀i a H' x,us[i]?=some x->Pv i a H'->g x a H' λd b=>tb {D with nx:=Pv (i+1),ct:=Pv (i+1),bk:=D.nx} d b)(hd:∀a H',Pv us.length a H'->D.nx a H'):∃W:Nat->Nat->L2.St->Hp->Prop,(∃m,W 0 m σ H)/\∀i m σ H,W i m σ H->(J.stop i H/\D.nx σ H)\/(J.go i H/\∃N:L2.St->Hp->Prop,(∀a H',N a H'->∃e,e<m/\W (i+1) e a H')/\∀x H',J.yW i H x H'->g x σ H' λd b=>tb {D with nx:=N,ct:=N,bk:=D.nx} d b):=iw us.length Pv f (λi a H' hi p=>⟨(W.1 i H' (c i a H' p) hi).1,λx b k=>by obtain⟨rfl,j⟩:=(W.1 i H' (c i a H' p) hi).2 x b k;exact h i a _ x j p⟩) λa H' p=>⟨W.2 H' (c _ a H' p),hd a H' p⟩
theorem aby{K:PySem.W.Frag}{a:TE}{σ:L2.St}{H:Hp}{R:It->Hp->Prop}{lg:Addr}{us:List V}(h:H lg=some (.lst us)\/H lg=some (.tup us))(ht:∀Q:VK,Q (.ref lg) H->a σ H Q)(k:∀J,Wlk J H us->R J H):WQ K a σ H R\/acL K a σ H R:=by
 rcases h with h|h;·exact .inl (ht _ ⟨lg,rfl,⟨_,bE.of h⟩,k _ (DO h)⟩)
 ·exact .inr (ht _ ⟨lg,rfl,⟨_,bU.of h⟩,k _ (Uc h)⟩)
end L3
end
section
namespace K24
open PySem L2 L3 KM PyProof.Rows
seal L2.PE L2.PS L2.iO L2.PT L2.PW L2.PA L2.PG L2.Bu L2.PI L2.PC L2.PO L2.AY L2.PK L3.A8 L3.PH L3.PB
variable{P:Program}{w:World}{K:PySem.W.Frag}{mg:Str->Option Value}{base:Heap}{t:xV}
theorem jA:∀(pl:List Int)(d g:D),Wf d->goto d pl=some g->Wf g/\pl.length+depth g<=depth d
 |[],d,g,h,z=>by rw[goto]at z;cases z;exact⟨h,by simp⟩
 |i::is,d,g,h,z=>by
  cases c:dM d i with
   |none=>rw[gw c]at z;cases z
   |some p=>
    rw[eS c]at z;obtain⟨a,b⟩:=jA is p g (j0 h c) z;have :depth p<depth d:=by
     obtain⟨k,h⟩:=h;obtain⟨x,ps,rfl⟩:=cG h;unfold dM at c;split at c;·exact(jJ h c).2
     ·cases c
    exact⟨a,by rw[bS];lia⟩
theorem QP{e g:D}:∀(pl:List Int)(d:D),Wf d->goto d pl=some g->depth (putD d pl e)<=depth d+(pl.length+depth e-depth d)|[],d,_,_=>by rw[putD,dg];lia|i::is,d,⟨k,h⟩,z=>by obtain⟨x,ps,rfl⟩:=cG h;cases a:dM (.tup (.str x::ps)) i with|none=>rw[gw a]at z;cases z|some p=>rw[eS a]at z;rw[xg a];obtain⟨i0,c,b⟩:=kW a;have a2:=QP (e:=e) is p (j0 ⟨k,h⟩ a) z;have b2:=oF b;have b3:=z3 (q:=putD p is e) (m:=aN ps+(is.length+depth e-aN ps)) (by lia) (ps:=ps) (i:=i.toNat) (by lia);rw[bS];simp only[depth,aN];lia
theorem jd{k:Bool}{x s:Str}{ps:List D}(cs:List Nat)(a:dS x= .str s)(hc:s.cps.toList=cs)(h:bu ay k (.tup (.str x::ps))=true):h_ x=k/\eh ay cs ps=true:=by obtain⟨s',e1,e2,e3,_⟩:=bO h;rw[a]at e1;cases e1;rw[hc]at e3;exact⟨e2,e3⟩
theorem HZ{k:Bool}{a b:D}(h:bu ay k (.tup [.str "app",a,b])=true):k=false/\bu ay false a=true/\bu ay false b=true:=by obtain⟨e2,e3⟩:=jd [116,116] (s:="tt") (by decide+kernel) (by decide+kernel) h;rw[show h_ "app"=false by decide+kernel]at e2;simp[eh]at e3;exact⟨e2.symm,e3.1,e3.2⟩
theorem Ik{k:Bool}{a b:D}(h:bu ay k (.tup [.str "fun",a,b])=true):bu ay true a=true/\bu ay false b=true:=by obtain⟨e2,e3⟩:=jd [107,116] (s:="kt") (by decide+kernel) (by decide+kernel) h;simp[eh]at e3;exact⟨e3.1,e3.2⟩
theorem Od{k:Bool}{a:D}(h:bu ay k (.tup [.str "next",a])=true):bu ay false a=true:=by obtain⟨e2,e3⟩:=jd [116] (s:="t") (by decide+kernel) (by decide+kernel) h;simp[eh]at e3;exact e3
theorem pz{k:Bool}{a:D}(h:bu ay k (.tup [.str "first",a])=true):k=false/\bu ay false a=true:=by obtain⟨e2,e3⟩:=jd [116] (s:="t") (by decide+kernel) (by decide+kernel) h;rw[show h_ "first"=false by decide+kernel]at e2;simp[eh]at e3;exact⟨e2.symm,e3⟩
theorem lM{k:Bool}{a:D}(h:bu ay k (.tup [.str "second",a])=true):k=false/\bu ay false a=true:=by obtain⟨e2,e3⟩:=jd [116] (s:="t") (by decide+kernel) (by decide+kernel) h;rw[show h_ "second"=false by decide+kernel]at e2;simp[eh]at e3;exact⟨e2.symm,e3⟩
theorem Ef{k:Bool}{a b c:D}(h:bu ay k (.tup [.str "pair",a,b,c])=true):bu ay false b=true/\bu ay false c=true:=by obtain⟨e2,e3⟩:=jd [107,116,116] (s:="ktt") (by decide+kernel) (by decide+kernel) h;simp[eh]at e3;exact⟨e3.2.1,e3.2.2⟩
theorem Mb{k:Bool}{a b c:D}(h:bu ay k (.tup [.str "carry",a,b,c])=true):k=false/\bu ay false b=true/\bu ay false c=true:=by obtain⟨e2,e3⟩:=jd [107,116,116] (s:="ktt") (by decide+kernel) (by decide+kernel) h;rw[show h_ "carry"=false by decide+kernel]at e2;simp[eh]at e3;exact⟨e2.symm,e3.2.1,e3.2.2⟩
theorem A_{k:Bool}{a b c d:D}(h:bu ay k (.tup [.str "rec",a,b,c,d])=true):k=false/\bu ay true a=true/\bu ay false b=true/\bu ay false c=true/\bu ay false d=true:=by obtain⟨e2,e3⟩:=jd [107,116,116,116] (s:="kttt") (by decide+kernel) (by decide+kernel) h;rw[show h_ "rec"=false by decide+kernel]at e2;simp[eh]at e3;exact⟨e2.symm,e3.1,e3.2.1,e3.2.2.1,e3.2.2.2⟩
theorem Pu{k:Bool}{a:D}(h:bu ay k (.tup [.str "name",a])=true):k=false:=by obtain⟨e2,e3⟩:=jd [119] (s:="w") (by decide+kernel) (by decide+kernel) h;rw[show h_ "name"=false by decide+kernel]at e2;exact e2.symm
def BkB(inb:Str->Bool)(B:Str->D):Prop:=∀y,inb y=true->bu ay false (B y)=true/\depth (B y)<=16
theorem il{x:Str}{ds:List D}{d:D}(h:d∈ds):depth d<depth (.tup (.str x::ds)):=by
 have c:∀(l:List D),d∈l->depth d<=aN l:=λl=>by
  induction l with
   |nil=>intro h;cases h
   |cons a l b=>
    intro h;rw[aN];rcases List.mem_cons.mp h with rfl|h;·exact Nat.le_max_left _ _
    ·exact dJ (b h) (Nat.le_max_right _ _)
 have k1:=c ds h;rw[depth,aN];exact Nat.lt_of_le_of_lt k1 (Nat.lt_of_le_of_lt (Nat.le_max_right _ _) (by rw[Nat.add_comm];exact Nat.lt_succ_self _))
theorem GA{x:Str}{ds:List D}{m:Nat}(h:∀d∈ds,depth d<=m):depth (.tup (.str x::ds))<=1+m:=by
 have c:∀(l:List D),(∀d∈l,depth d<=m)->aN l<=m:=λl=>by induction l with|nil=>intro _;exact fW _|cons a l b=>intro h;rw[aN];exact Nat.max_le.mpr ⟨h a eD,b λd hd=>h d (eA _ hd)⟩
 rw[depth,aN];exact Nat.add_le_add_left (Nat.max_le.mpr ⟨fW _,c ds h⟩) 1
theorem LG{inb:Str->Bool}{B:Str->D}{e e':D}{r:Str}{g k:Bool}(v:BkB inb B)(h:Jo B e r e' g)(wf:bu ay k e=true)(z:cI inb e= .str r):bu ay k e'=true/\depth e'<=2*depth e+16:=by
 have f:∀{d:D},depth d<depth e->depth d<=2*depth e+16:=λh=>by lia
 cases h with
  |fn A C u q rz=>rename_i c bd o;obtain⟨rfl,w1,w2⟩:=HZ wf;obtain⟨j,i⟩:=Ik w1;obtain⟨q1,_,q3,_⟩:=gv (o:=o) (at_:=0) (Int.le_refl 0) w2 q 58 0 bd false (Int.le_refl 0) u i;refine⟨q1,?_⟩;have a1:depth o<_:=il (x:="app") (ds:=[.tup [.str "fun",c,bd],o]) (by simp);have a2:depth bd<_:=il (x:="fun") (ds:=[c,bd]) (by simp);have a3:depth (.tup [.str "fun",c,bd])<_:=il (x:="app") (ds:=[.tup [.str "fun",c,bd],o]) (by simp);exact dJ q3 (by lia)
  |zero=>obtain⟨rfl,w0,w1,w2,j⟩:=A_ wf;exact⟨w1,f (il (by simp))⟩
  |aaa=>obtain⟨rfl,w1,w2⟩:=Mb wf;exact⟨w1,f (il (by simp))⟩
  |next=>
   rename_i k b s n;obtain⟨rfl,w0,w1,w2,j⟩:=A_ wf;have i:=Od j;refine⟨oI (oI w2 i) (AZ w0 w1 w2 i),?_⟩;have b0:depth k<_:=il (x:="rec") (ds:=[k,b,s, .tup [.str "next",n]]) (by simp);have b1:depth b<_:=il (x:="rec") (ds:=[k,b,s, .tup [.str "next",n]]) (by simp);have b2:depth s<_:=il (x:="rec") (ds:=[k,b,s, .tup [.str "next",n]]) (by simp);have b3:depth (.tup [.str "next",n])<_:=il (x:="rec") (ds:=[k,b,s, .tup [.str "next",n]]) (by simp);have p:depth n<_:=il (x:="next") (ds:=[n]) (by simp);have l:depth n<_:=Nat.lt_trans p b3;have c1:depth (.tup [.str "app",s,n])<=1+depth (.tup [.str "rec",k,b,s, .tup [.str "next",n]]):=GA λd hd=>by
    simp only[kZ,pj,or_false]at hd;rcases hd with rfl|rfl;·exact Nat.le_of_lt b2
    ·exact Nat.le_of_lt l
   have c2:depth (.tup [.str "rec",k,b,s,n])<=1+depth (.tup [.str "rec",k,b,s, .tup [.str "next",n]]):=GA λd hd=>by
    simp only[kZ,pj,or_false]at hd;rcases hd with rfl|rfl|rfl|rfl;·exact Nat.le_of_lt b0
    ·exact Nat.le_of_lt b1
    ·exact Nat.le_of_lt b2
    ·exact Nat.le_of_lt l
   refine dJ (GA (m:=1+depth (.tup [.str "rec",k,b,s, .tup [.str "next",n]])) λd hd=>?_) (by lia);simp only[kZ,pj,or_false]at hd;rcases hd with rfl|rfl;·exact c1
   ·exact c2
  |first=>obtain⟨rfl,w0⟩:=pz wf;rename_i c y;have a1:depth (.tup [.str "pair",c,e',y])<_:=il (x:="first") (ds:=[.tup [.str "pair",c,e',y]]) (by simp);exact⟨(Ef w0).1,f (Nat.lt_trans (il (by simp)) a1)⟩
  |second=>obtain⟨rfl,w0⟩:=lM wf;rename_i c x;have a1:depth (.tup [.str "pair",c,x,e'])<_:=il (x:="second") (ds:=[.tup [.str "pair",c,x,e']]) (by simp);exact⟨(Ef w0).2,f (Nat.lt_trans (il (by simp)) a1)⟩
  |name=>rename_i y;cases Pu wf;obtain⟨a,b⟩:=v y (Af z);exact⟨a,by lia⟩
theorem jD{k:Bool}{x s:Str}{ps:List D}(n:Nat)(a:dS x= .str s)(hc:s.cps.toList.length=n)(h:bu ay k (.tup (.str x::ps))=true):ps.length=n:=by obtain⟨s',e1,_,_,_,b,_⟩:=bO h;rw[a]at e1;cases e1;lia
theorem adl{ps:List D}(h:ps.length=2):∃a b,ps=[a,b]:=by match ps,h with|[a,b],_=>exact⟨a,b,rfl⟩
theorem Hd{ps:List D}(h:ps.length=3):∃a b c,ps=[a,b,c]:=by match ps,h with|[a,b,c],_=>exact⟨a,b,c,rfl⟩
theorem four{ps:List D}(h:ps.length=4):∃a b c d,ps=[a,b,c,d]:=by match ps,h with|[a,b,c,d],_=>exact⟨a,b,c,d,rfl⟩
theorem Yv{inb:Str->Bool}{B:Str->D}{e:D}{r:Str}{k:Bool}(wf:bu ay k e=true)(hd:depth e<=45)(f:cI inb e= .str r):∃p:D×Bool,Jo B e r p.1 p.2:=by
 obtain⟨x,ps,rfl⟩:=cG wf;have f:fe inb x ps= .str r:=f;unfold fe at f;by_cases c1:x="name"
 ·subst c1;rw[if_pos rfl]at f;obtain⟨y,rfl⟩:=oM wf;have f:(if inb y=true then V.str "name"else .a_)= .str r:=f;split at f;·cases f;exact⟨(B y,false), .name⟩
  ·cases f
 rw[if_neg c1]at f;by_cases c2:x="app"
 ·subst c2;rw[if_pos rfl]at f;obtain⟨a,b,rfl⟩:=adl (jD 2 (s:="tt") (by decide+kernel) (by decide+kernel) wf);obtain⟨_,w1,w2⟩:=HZ wf;obtain⟨y,i,rfl⟩:=cG w1;have f:(if y="fun"then V.str "fun"else .a_)= .str r:=f;split at f
  ·rename_i g;subst g;cases f;obtain⟨k1,bd,rfl⟩:=adl (jD 2 (s:="kt") (by decide+kernel) (by decide+kernel) w1);obtain⟨u,h⟩:=Ik w1;have h1:depth bd<45:=by simp only[depth,aN]at hd;lia
   have h2:depth b<45:=by simp only[depth,aN]at hd;lia
   obtain⟨q1,_,q3,_⟩:=gv (o:=b) (at_:=0) (Int.le_refl 0) w2 (by lia) 58 0 bd false (Int.le_refl 0) (by lia) h;exact⟨(AU b 0 bd,fY (AU b 0 bd)), .fn ⟨_,h⟩ ⟨_,w2⟩ (by lia) (by lia) ⟨⟨_,q1⟩,by show depth (ma (lR b 0) 58 0 bd)<100;lia,fW _⟩⟩
  ·cases f
 rw[if_neg c2]at f;by_cases j:x="carry"
 ·subst j;rw[if_pos rfl]at f;obtain⟨a,b,c,rfl⟩:=Hd (jD 3 (s:="ktt") (by decide+kernel) (by decide+kernel) wf);have f:(if zE c="like"then V.str "like"else .a_)= .str r:=f;split at f;·cases f;exact⟨(b,false), .aaa⟩
  ·cases f
 rw[if_neg j]at f;by_cases l:x="first"
 ·subst l;rw[if_pos rfl]at f;obtain⟨a,rfl⟩:=List.length_eq_one_iff.mp (jD 1 (s:="t") (by decide+kernel) (by decide+kernel) wf);obtain⟨y,i,rfl⟩:=cG (pz wf).2;have f:(if y="pair"then V.str "first"else .a_)= .str r:=f;split at f;·rename_i g;subst g;cases f;obtain⟨a,b,c,rfl⟩:=Hd (jD 3 (s:="ktt") (by decide+kernel) (by decide+kernel) (pz wf).2);exact⟨(b,false), .first⟩
  ·cases f
 rw[if_neg l]at f;by_cases n:x="second"
 ·subst n;rw[if_pos rfl]at f;obtain⟨a,rfl⟩:=List.length_eq_one_iff.mp (jD 1 (s:="t") (by decide+kernel) (by decide+kernel) wf);obtain⟨y,i,rfl⟩:=cG (lM wf).2;have f:(if y="pair"then V.str "second"else .a_)= .str r:=f;split at f;·rename_i g;subst g;cases f;obtain⟨a,b,c,rfl⟩:=Hd (jD 3 (s:="ktt") (by decide+kernel) (by decide+kernel) (lM wf).2);exact⟨(c,false), .second⟩
  ·cases f
 rw[if_neg n]at f;by_cases q:x="rec"
 ·subst q;rw[if_pos rfl]at f;obtain⟨a,b,c,d,rfl⟩:=four (jD 4 (s:="kttt") (by decide+kernel) (by decide+kernel) wf);obtain⟨_,_,_,_,h⟩:=A_ wf;obtain⟨y,i,rfl⟩:=cG h;have f:(if y="zero"then V.str "zero"else if y="next"then V.str "next"else .a_)= .str r:=f;split at f;·cases f;exact⟨(b,false), .zero⟩
  split at f;·rename_i g;subst g;cases f;obtain⟨m,rfl⟩:=List.length_eq_one_iff.mp (jD 1 (s:="t") (by decide+kernel) (by decide+kernel) h);exact⟨(_,false), .next⟩
  ·cases f
 rw[if_neg q]at f;cases f
open Classical in noncomputable def EV(B:Str->D)(e:D)(r:Str):D×Bool:=if h:∃p:D×Bool,Jo B e r p.1 p.2 then h.choose else(.a_,false)
theorem SM{B:Str->D}{e:D}{r:Str}(h:∃p:D×Bool,Jo B e r p.1 p.2):Jo B e r (EV B e r).1 (EV B e r).2:=by unfold EV;rw[dif_pos h];exact h.choose_spec
noncomputable def LA(B:Str->D)(d:D)(pl:List Int)(e:D)(r:Str):D:=putD d pl (EV B e r).1
noncomputable def Pf(B:Str->D)(d:D)(pl:List Int)(e:D)(r:Str):Bool:=(EV B e r).2||fY (LA B d pl e r)
structure Td(d:D):Prop where
 wf:Wf d
 dp:depth d<=40
 kn:aG d<=300000
theorem stC{inb:Str->Bool}{B:Str->D}{d e:D}{pl:List Int}{r:Str}(f:BkB inb B)(h:Td d)(a:goto d pl=some e)(c:cI inb e= .str r):adv inb B d pl r (EV B e r).1 (EV B e r).2/\(Pf B d pl e r=false->Td (LA B d pl e r)):=by obtain⟨⟨k,wf⟩,hd,_⟩:=h;obtain⟨⟨g,b⟩,l⟩:=jA pl d e ⟨k,wf⟩ a;have ha:=SM (Yv (B:=B) b (by lia) c);obtain⟨w1,i⟩:=LG f ha b c;have w2:=G5 b w1 pl d k wf a;have j:=QP (e:=(EV B e r).1) pl d ⟨k,wf⟩ a;refine⟨⟨⟨e,a,⟨g,b⟩,c,ha⟩,⟨k,wf⟩,by lia,⟨⟨k,w2⟩,by lia,fW _⟩⟩,λh=>?_⟩;have h2:=M_ ((Bool.or_eq_false_iff.mp h).2);exact⟨⟨k,w2⟩,h2.1,dJ h2.2 (by decide)⟩
noncomputable abbrev Lg:=List Int×Str
noncomputable def oS(r:Lg):D:= .tup [Sa r.1, .str r.2]
inductive Wr|th(d:D)|pl|st|gr
noncomputable def pO(inb:Str->Bool)(B:Str->D):D->List Lg->Wr|d,[]=> .th d|d,r::rest=>match goto d r.1 with|none=> .pl|some e=>if cI inb e= .str r.2 then(if Pf B d r.1 e r.2=true then .gr else pO inb B (LA B d r.1 e r.2) rest)else .st
theorem BN{inb:Str->Bool}{B:Str->D}{d:D}{r:Lg}{rest:List Lg}(h:goto d r.1=none):pO inb B d (r::rest)= .pl:=by rw[pO,h]
theorem Dx{inb:Str->Bool}{B:Str->D}{d e:D}{r:Lg}{rest:List Lg}(h:goto d r.1=some e)(a:cI inb e≠ .str r.2):pO inb B d (r::rest)= .st:=by rw[pO,h];exact if_neg a
theorem O9{inb:Str->Bool}{B:Str->D}{d e:D}{r:Lg}{rest:List Lg}(h:goto d r.1=some e)(a:cI inb e= .str r.2)(hb:Pf B d r.1 e r.2=true):pO inb B d (r::rest)= .gr:=by rw[pO,h];show(if _ then(if _ then _ else _)else _)=_;rw[if_pos a,if_pos hb]
theorem Rl{inb:Str->Bool}{B:Str->D}{d e:D}{r:Lg}{rest:List Lg}(h:goto d r.1=some e)(a:cI inb e= .str r.2)(hb:Pf B d r.1 e r.2=false):pO inb B d (r::rest)=pO inb B (LA B d r.1 e r.2) rest:=by rw[pO,h];show(if _ then(if _ then _ else _)else _)=_;rw[if_pos a,if_neg (by rw[hb];decide)]
theorem i_{inb:Str->Bool}{d:D}(h:Wf d):cI inb d= .a_\/∃r:Str,cI inb d= .str r:=by
 obtain⟨k,h⟩:=h;obtain⟨x,ps,rfl⟩:=cG h;show fe inb x ps= .a_\/∃r:Str,fe inb x ps= .str r;unfold fe Jp;repeat' split
 all_goals first|exact .inl rfl|exact .inr ⟨_,rfl⟩
structure Fb(H:Hp)(B:Str->D)(d:D)(v:V)(b:Addr)(aF:List (Key×V))(rows:List Lg)(us:List V)(T1 T2:Addr):Prop where
 rd:Rep H d v
 td:Td d
 rr:bg H (rows.map oS) us
 hb:H b=some (.dK aF)
 br:RP H aF B
 bb:BkB (eE aF) B
 tb:JZ H T1 T2
theorem Fb.mono{H H':Hp}{B:Str->D}{d:D}{v:V}{b:Addr}{aF:List (Key×V)}{rows:List Lg}{us:List V}{T1 T2:Addr}(h:Fb H B d v b aF rows us T1 T2)(s:aQ H H'):Fb H' B d v b aF rows us T1 T2:=⟨h.rd.mono s,h.td,h.rr.mono s,s _ _ h.hb,h.br.mono s,h.bb,h.tb.mono s⟩
def J9(np ns gr T1 T2:Addr):Sp:=λvs H Q E=>∃(B:Str->D)(d:D)(v:V)(b lg:Addr)(aF:List (Key×V))(rows:List Lg)(us:List V),vs=[v, .ref lg, .ref b]/\(H lg=some (.lst us)\/H lg=some (.tup us))/\Fb H B d v b aF rows us T1 T2/\(∀(z:V)(H':Hp)(d':D),aQ H H'->pO (eE aF) B d rows= .th d'->Td d'->Rep H' d' z->Q z H')/\(∀H',aQ H H'->pO (eE aF) B d rows= .pl->E (.ref np) none H')/\(∀H',aQ H H'->pO (eE aF) B d rows= .st->E (.ref ns) none H')/\(∀H',aQ H H'->pO (eE aF) B d rows= .gr->E (.ref gr) none H')
theorem TC{T1 T2:Addr}(D:Df K mg "walked" m_ ["thing","log","book"])(M:Mg mg t)(xK:oV K t.cJ)(mi:bx P w K mg (f9 P w) "at_place" (3) ["thing","place"] (XN t.bp))(pB:bx P w K mg bF "rule_of" (1) ["thing","book"] yf)(iK:bx P w K mg (f9 P w) "stepped" (128) ["thing","place","book"] (CI t.cu T1 T2)):bx P w K mg (f9 P w) "walked" (129) ["thing","log","book"] (J9 t.bp t.cJ t.cu T1 T2):=by
 refine D.R_ iU (λvs H Q E h=>?_) (λbase f cZ A outer s H vs Q E O h=>?_);·obtain⟨B,d,v,b,lg,aF,rows,us,rfl,_⟩:=h;rfl
 obtain⟨B,d,v,b,lg,aF,rows,us,rfl,A9,W,q,qp,qs,qg⟩:=h;refine⟨_,(ah (aH (i:=3) iU.nd rfl (cq rfl) (pv 0)) (ah (fk WI rfl (aar (gm (pv 1)) (AL (pv 1))) (yn (n:=2) rfl (d4 (bJ (i:=4) iU.nd rfl (cq rfl)) (d4 (bJ (i:=5) iU.nd rfl (cq rfl)) m7))) (ah (bf (aA Qt (aI pB O.m rfl aM (ae (aI mi O.m rfl dG (ae (pv 3) (ae (pv 4) ag))) (ae (pv 2) ag))) (pv 5) (aR _)) (ak (mB (G:=(λH'=>E (.ref t.cJ) none H')) xK M.g_NoStep (ae aq ag) (λpins σ H s e h' I m q=>uE I m q))) aK) (ak (aH (i:=3) iU.nd rfl (cq rfl) (aI iK O.m rfl dG (ae (pv 3) (ae (pv 4) (ae (pv 2) ag)))))))) (ak (aw (pv 3))))),?_⟩;try dsimp only[gV,cP]
 refine zu ?_;intro _ _ _;have Yl:=W.rr.length;rw[cV]at Yl;refine⟨_,rfl,aby A9 (λQ h=>⟨_,rfl,h⟩) λJ wl=>?_⟩;refine Ih wl (λj N H'=>∃(a:KM.D)(u:V)(U X:Option V),N=[some v,some (.ref lg),some (.ref b),some u,U,X]/\aQ H H'/\Rep H' a u/\Td a/\pO (eE aF) B d rows=pO (eE aF) B a (rows.drop j)) ⟨d,v,none,none,rfl,aQ.refl _,W.rd,W.td,rfl⟩ (λi N H' h=>h.elim λ_ h=>h.elim λ_ h=>h.elim λ_ h=>h.elim λ_ h=>h.2.1) ?_ ?_
 ·rintro j N Y x hx⟨a,u,U,X,rfl,s1,F,C,k⟩;have hj:j<us.length:=(List.getElem?_eq_some_iff.mp hx).1;obtain⟨r,R⟩:∃r,rows[j]?=some r:=⟨_,dD (by lia)⟩;obtain⟨x',Yk,rx⟩:=W.rr.get (show(rows.map oS)[j]?=some (oS r)by rw[jP,R];rfl);rw[hx]at Yk;cases Yk;obtain⟨row,_,rfl,GK,⟨pw,_,rfl,S,⟨_,_,rfl,⟨rfl,ZT⟩,rn⟩⟩⟩:=id rx;cases(show _=[]from rn);have edr:rows.drop j=r::rows.drop (j+1):=by rw[List.drop_eq_getElem_cons (by lia)];rw[dD (by lia)]at R;rw[Option.some.inj R]
  rw[edr]at k;refine⟨row,_,rfl,bU.of (s1 _ _ GK),rfl,_,_,rfl,_,_,rfl,rfl,?_⟩;cases g:goto a r.1 with
   |none=>refine⟨_,rfl,_,rfl,a,u,r.1,pw,rfl,F,C.wf,S.mono s1,(λe1 u2 L y l r3=>by rw[g]at l;cases l),λL y l=>?_⟩;exact qp L (s1.trans y) (k.trans (BN g))
   |some e=>
    obtain⟨we,_⟩:=jA _ _ _ C.wf g;refine⟨_,rfl,_,rfl,a,u,r.1,pw,rfl,F,C.wf,S.mono s1,λe1 u2 L y l r3=>?_,λL y l=>by rw[g]at l;cases l⟩;rw[g]at l;cases l;have Fv:=s1.trans y;refine⟨_,rfl,e,u2,b,aF,rfl,r3,we,Fv _ _ W.hb,λZ s4=>?_⟩;have p:=Fv.trans s4;rcases i_ (inb:=eE aF) we with o|⟨r',o⟩;·rw[o];refine⟨_,rfl,rfl,_,rfl,ba (λ_=>?_) (λc=>absurd rfl c)⟩;exact⟨by decide,qs Z p (k.trans (Dx g (by rw[o];simp)))⟩
    rw[o];refine⟨_,rfl,rfl,_,rfl,ba (λc=>?_) (λc=>?_)⟩;·exact⟨by decide,qs Z p (k.trans (Dx g (by rw[o];intro z;rw[z]at c;simp at c)))⟩
    have er:r'=r.2:=by
     by_cases z:r'=r.2;·exact z
     ·exact absurd (by simp[z]) c
    subst er;obtain⟨ok,nx⟩:=stC W.bb C g o;refine⟨_,rfl,_,rfl,_,rfl,B,a,_,u,pw,r.1,b,aF,r.2,_,rfl,F.mono (y.trans s4),S.mono p,p _ _ W.hb,W.br.mono p,ok,W.tb.mono p,λz H5 T R9 r5=>?_,λH5 T hgt=>qg H5 (p.trans T) (k.trans (O9 g o hgt))⟩;exact⟨LA B a r.1 e r.2,z,_,_,rfl,p.trans T,r5,nx R9,k.trans (Rl g o R9)⟩
 ·rintro N Y⟨a,u,U,X,rfl,s1,F,C,k⟩;rw[List.drop_eq_nil_of_le (by lia)]at k;exact⟨_,rfl,q u Y a s1 k C F⟩
def Oo(K:PySem.W.Frag):Sp:=λvs H Q _=>∃(a p c:Addr)(ns:List Int)(i:Int)(k:Bool)(d:D)(v:V),vs=[.ref a, .ref p,v]/\Sg K a p c ns H i/\i<2^50/\Rep H d v/\bu ay k d=true/\∀(d':D)(b:V)(H':Hp)(i':Int),Ou K a p c ns H i k (depth d+1) (aG d+4) 1 d' b H' i'->Q b H'
theorem kB:aT ["_law_script","_law_tape","_law_thing_here","_law_way"] ["_law_script","_law_tape","_law_thing_here"] (ar fG):=⟨rfl,rfl,rfl,by decide+kernel,rfl,by decide+kernel,by decide+kernel⟩
theorem zC(D:Df K mg "_law_wrapped" fG ["_law_script","_law_tape","_law_thing_here"])(M:Mg mg t)(J:bx P w K mg bF "_law_draw" (1) Bi (d_ K)):bx P w K mg bF "_law_wrapped" (2) ["_law_script","_law_tape","_law_thing_here"] (Oo K):=by
 refine D.ok kB (λvs H Q E h=>?_) (λbase f cZ A outer s H vs Q E Y h=>?_);·obtain⟨a,p,c,ns,i,k,d,v,rfl,_⟩:=h;rfl
 obtain⟨a,p,c,ns,i,k,d,v,rfl,g,hi,r,wf,q⟩:=h;have i0:=g.T.i0;obtain⟨x,ps,rfl⟩:=cG wf;refine⟨_,(ah (aH (i:=3) kB.nd rfl (cq rfl) (aI J Y.m rfl aM (ae (pv 0) (ae (pv 1) (ae ai ag))))) (ah (bf (aA iE (aS aU (pv 2) ai (λ_ _=>rfl)) (aE (ae aq (ae aq (ae aq (ae aq (ae aq ag)))))) rfl) (ak (aw (aS bK (bR (ae (aE (ae aq (ae (aE (ae aq ag)) (ae (pv 2) ag)))) (ae (aE (ae aq (ae (pv 2) (ae (aE (ae aq ag)) ag)))) (ae (aE (ae aq (ae (pv 2) (ae (aE (ae aq ag)) ag)))) ag)))) (aJ e9 (pv 3) ai) (λ_ _=>rfl)))) aK) (ah (bf (aA kH (pv 3) ai (aR _)) (ak (aw (aS bK (bR (ae (aE (ae aq (ae (pv 2) ag))) (ae (aE (ae aq (ae (pv 2) ag))) ag))) (pv 3) (λ_ _=>rfl)))) aK) (ah (bf (aA kH (pv 3) ai (aR _)) (ak (aw (aS bK (bR (ae (aE (ae aq (ae (pv 2) (ae (aE (ae aq ag)) ag)))) (ae (aE (ae aq (ae (aE (ae aq ag)) (ae (pv 2) ag)))) ag))) (aJ bH (pv 3) ai) (λ_ _=>rfl)))) aK) (ah (bf (aA kH (pv 3) ai (aR _)) (ak (aw (aS bK (bR (ae (aE (ae aq (ae (aE (ae aq ag)) (ae (aE (ae aq ag)) (ae (pv 2) ag))))) (ae (aE (ae aq (ae (aE (ae aq ag)) (ae (pv 2) ag)))) ag))) (aJ bH (pv 3) ai) (λ_ _=>rfl)))) aK) (ak (aw (aS bK (bR (ae (aE (ae aq (ae (aE (ae aq ag)) (ae (pv 2) ag)))) (ae (aE (ae aq (ae (aE (ae aq ag)) (ae (pv 2) (ae (aE (ae aq ag)) (ae (aE (ae aq ag)) ag)))))) ag))) (aJ bH (pv 3) ai) (λ_ _=>rfl))))))))),?_⟩;try dsimp only[gV,cP]
 refine SW ?_;intro _ _ _ _ _ _;refine⟨_,rfl,_,rfl,a,p,ns,i,8,rfl,g.T,(by lia),(by decide),λb L w0 w1 y h1=>?_⟩;have U:=g.next y h1 (by lia);have u:=g.rep y r;obtain⟨O,M3,rfl,ha,v0,us,rfl,⟨rfl,hx⟩,rp⟩:=id u;have T:lX (V.str x::us) 0=some (.str x):=aL (j:=0) rfl;refine⟨_,rfl,O,_,_,_,rfl,rfl,bU.of ha,T,?_⟩;obtain⟨_,_,B,_⟩:=bO wf;refine⟨(c7 rfl),λC X=>⟨C,(["nat","none","all","some","same"]:List Str).map V.str,rfl, .inr (bU.of aj),rfl,rfl,_,rfl,?_⟩⟩;have s1:=ao X (.tup [V.str "nat", .str "none", .str "all", .str "some", .str "same"]);show if h_ x=true then _ else _;rw[B];have F:=u.mono s1;have z:=U.mono s1;have I:=y.trans s1.x;generalize upd L C (.tup [V.str "nat", .str "none", .str "all", .str "some", .str "same"])=N at s1 F z I⊢;have S:1<=depth (.tup (.str x::ps)):=by simp only[depth,aN];lia
 generalize KM.D.tup (.str x::ps)=d at wf q F S;clear B u rp r;have fin:∀(d':KM.D),bu ay k d'=true->depth d'<=depth d+1->aG d'<=aG d+4->∀(o:V)(H':Hp),aQ N H'->Rep H' d' o->Q o H':=λd' hw hd W o H' G Z=>q d' o H' (i+1) ⟨Z,hw,hd,W,I.trans G.x,z.mono G,by lia,by lia⟩;have l:bu ay true (.tup [.str "nat"])=true:=Cb;have n:bu ay false (.tup [.str "zero"])=true:=jq;cases k with
  |true=>
   refine lZ ?_;have cs:b%3=((0:Nat):Int)\/b%3=((1:Nat):Int)\/b%3=((2:Nat):Int):=by lia
   rcases cs with e|e|e
   ·refine eW [.tup [.str "all", .tup [.str "nat"],d], .tup [.str "some",d, .tup [.str "nat"]], .tup [.str "all",d, .tup [.str "nat"]]] 0 (.tup [.str "all", .tup [.str "nat"],d]) ?_ (λH R h=>⟨_,rfl,_,_,rfl,rfl,(by show(0:Int)<3;decide),by show R (V.int (b%3)) H;rw[e];exact h⟩) rfl (by simp only[bS,dg];decide) (fin _ (FO l wf) ?_ ?_);·repeat' first|exact gy|exact eV|apply dU|apply gG|exact gI rfl (by assumption)|(simp only[bS,dg];decide)
    ·apply KM.d0;with_reducible repeat' first|apply KM.n9|apply KM.nY|apply KM.q0|apply KM.q4|apply KM.q3|apply KM.q2|apply KM.q1|lia
    ·simp only[aG,aO];lia
   ·refine eW [.tup [.str "all", .tup [.str "nat"],d], .tup [.str "some",d, .tup [.str "nat"]], .tup [.str "all",d, .tup [.str "nat"]]] 1 (.tup [.str "some",d, .tup [.str "nat"]]) ?_ (λH R h=>⟨_,rfl,_,_,rfl,rfl,(by show(0:Int)<3;decide),by show R (V.int (b%3)) H;rw[e];exact h⟩) rfl (by simp only[bS,dg];decide) (fin _ (IJ wf l) ?_ ?_);·repeat' first|exact gy|exact eV|apply dU|apply gG|exact gI rfl (by assumption)|(simp only[bS,dg];decide)
    ·apply KM.d0;with_reducible repeat' first|apply KM.n9|apply KM.nY|apply KM.q0|apply KM.q4|apply KM.q3|apply KM.q2|apply KM.q1|lia
    ·simp only[aG,aO];lia
   ·refine eW [.tup [.str "all", .tup [.str "nat"],d], .tup [.str "some",d, .tup [.str "nat"]], .tup [.str "all",d, .tup [.str "nat"]]] 2 (.tup [.str "all",d, .tup [.str "nat"]]) ?_ (λH R h=>⟨_,rfl,_,_,rfl,rfl,(by show(0:Int)<3;decide),by show R (V.int (b%3)) H;rw[e];exact h⟩) rfl (by simp only[bS,dg];decide) (fin _ (FO wf l) ?_ ?_);·repeat' first|exact gy|exact eV|apply dU|apply gG|exact gI rfl (by assumption)|(simp only[bS,dg];decide)
    ·apply KM.d0;with_reducible repeat' first|apply KM.n9|apply KM.nY|apply KM.q0|apply KM.q4|apply KM.q3|apply KM.q2|apply KM.q1|lia
    ·simp only[aG,aO];lia
  |false=>
   refine jZ ?_;refine⟨_,rfl,_,_,rfl,rfl,_,rfl,ba (λc1=>?_) (λc1=>?_)⟩
   ·have c1:b<2:=of_decide_eq_true c1;have cs:b=((0:Nat):Int)\/b=((1:Nat):Int):=by lia
    rcases cs with e|e
    ·refine eW [.tup [.str "next",d], .tup [.str "second",d]] 0 (.tup [.str "next",d]) ?_ (λH R h=>⟨_,rfl,e▸h⟩) rfl (by simp only[bS,dg];decide) (fin _ (wU wf) ?_ ?_);·repeat' first|exact gy|exact eV|apply dU|apply gG|exact gI rfl (by assumption)|(simp only[bS,dg];decide)
     ·apply KM.d0;with_reducible repeat' first|apply KM.n9|apply KM.nY|apply KM.q0|apply KM.q4|apply KM.q3|apply KM.q2|apply KM.q1|lia
     ·simp only[aG,aO];lia
    ·refine eW [.tup [.str "next",d], .tup [.str "second",d]] 1 (.tup [.str "second",d]) ?_ (λH R h=>⟨_,rfl,e▸h⟩) rfl (by simp only[bS,dg];decide) (fin _ (oR wf) ?_ ?_);·repeat' first|exact gy|exact eV|apply dU|apply gG|exact gI rfl (by assumption)|(simp only[bS,dg];decide)
     ·apply KM.d0;with_reducible repeat' first|apply KM.n9|apply KM.nY|apply KM.q0|apply KM.q4|apply KM.q3|apply KM.q2|apply KM.q1|lia
     ·simp only[aG,aO];lia
   have c1:¬b<2:=of_decide_eq_false (Bool.eq_false_iff.mpr c1);refine⟨_,rfl,_,_,rfl,rfl,_,rfl,ba (λc2=>?_) (λc2=>?_)⟩
   ·have c2:b<4:=of_decide_eq_true c2;have cs:b-2=((0:Nat):Int)\/b-2=((1:Nat):Int):=by lia
    rcases cs with e|e
    ·refine eW [.tup [.str "app",d, .tup [.str "zero"]], .tup [.str "app", .tup [.str "zero"],d]] 0 (.tup [.str "app",d, .tup [.str "zero"]]) ?_ (λH R h=>⟨_,rfl,_,_,rfl,rfl,by show R (V.int (b-2)) H;rw[e];exact h⟩) rfl (by simp only[bS,dg];decide) (fin _ (oI wf n) ?_ ?_);·repeat' first|exact gy|exact eV|apply dU|apply gG|exact gI rfl (by assumption)|(simp only[bS,dg];decide)
     ·apply KM.d0;with_reducible repeat' first|apply KM.n9|apply KM.nY|apply KM.q0|apply KM.q4|apply KM.q3|apply KM.q2|apply KM.q1|lia
     ·simp only[aG,aO];lia
    ·refine eW [.tup [.str "app",d, .tup [.str "zero"]], .tup [.str "app", .tup [.str "zero"],d]] 1 (.tup [.str "app", .tup [.str "zero"],d]) ?_ (λH R h=>⟨_,rfl,_,_,rfl,rfl,by show R (V.int (b-2)) H;rw[e];exact h⟩) rfl (by simp only[bS,dg];decide) (fin _ (oI n wf) ?_ ?_);·repeat' first|exact gy|exact eV|apply dU|apply gG|exact gI rfl (by assumption)|(simp only[bS,dg];decide)
     ·apply KM.d0;with_reducible repeat' first|apply KM.n9|apply KM.nY|apply KM.q0|apply KM.q4|apply KM.q3|apply KM.q2|apply KM.q1|lia
     ·simp only[aG,aO];lia
   have c2:¬b<4:=of_decide_eq_false (Bool.eq_false_iff.mpr c2);refine⟨_,rfl,_,_,rfl,rfl,_,rfl,ba (λm=>?_) (λm=>?_)⟩
   ·have m:b<6:=of_decide_eq_true m;have cs:b-4=((0:Nat):Int)\/b-4=((1:Nat):Int):=by lia
    rcases cs with e|e
    ·refine eW [.tup [.str "pair", .tup [.str "nat"], .tup [.str "zero"],d], .tup [.str "fun", .tup [.str "nat"],d]] 0 (.tup [.str "pair", .tup [.str "nat"], .tup [.str "zero"],d]) ?_ (λH R h=>⟨_,rfl,_,_,rfl,rfl,by show R (V.int (b-4)) H;rw[e];exact h⟩) rfl (by simp only[bS,dg];decide) (fin _ (HL l n wf) ?_ ?_);·repeat' first|exact gy|exact eV|apply dU|apply gG|exact gI rfl (by assumption)|(simp only[bS,dg];decide)
     ·apply KM.d0;with_reducible repeat' first|apply KM.n9|apply KM.nY|apply KM.q0|apply KM.q4|apply KM.q3|apply KM.q2|apply KM.q1|lia
     ·simp only[aG,aO];lia
    ·refine eW [.tup [.str "pair", .tup [.str "nat"], .tup [.str "zero"],d], .tup [.str "fun", .tup [.str "nat"],d]] 1 (.tup [.str "fun", .tup [.str "nat"],d]) ?_ (λH R h=>⟨_,rfl,_,_,rfl,rfl,by show R (V.int (b-4)) H;rw[e];exact h⟩) rfl (by simp only[bS,dg];decide) (fin _ (Qq l wf) ?_ ?_);·repeat' first|exact gy|exact eV|apply dU|apply gG|exact gI rfl (by assumption)|(simp only[bS,dg];decide)
     ·apply KM.d0;with_reducible repeat' first|apply KM.n9|apply KM.nY|apply KM.q0|apply KM.q4|apply KM.q3|apply KM.q2|apply KM.q1|lia
     ·simp only[aG,aO];lia
   have m:¬b<6:=of_decide_eq_false (Bool.eq_false_iff.mpr m);simp only[WB];have cs:b-6=((0:Nat):Int)\/b-6=((1:Nat):Int):=by lia
   rcases cs with e|e
   ·refine eW [.tup [.str "like", .tup [.str "nat"],d], .tup [.str "rec", .tup [.str "nat"],d, .tup [.str "zero"], .tup [.str "zero"]]] 0 (.tup [.str "like", .tup [.str "nat"],d]) ?_ (λH R h=>⟨_,rfl,_,_,rfl,rfl,by show R (V.int (b-6)) H;rw[e];exact h⟩) rfl (by simp only[bS,dg];decide) (fin _ (Lu l wf) ?_ ?_);·repeat' first|exact gy|exact eV|apply dU|apply gG|exact gI rfl (by assumption)|(simp only[bS,dg];decide)
    ·apply KM.d0;with_reducible repeat' first|apply KM.n9|apply KM.nY|apply KM.q0|apply KM.q4|apply KM.q3|apply KM.q2|apply KM.q1|lia
    ·simp only[aG,aO];lia
   ·refine eW [.tup [.str "like", .tup [.str "nat"],d], .tup [.str "rec", .tup [.str "nat"],d, .tup [.str "zero"], .tup [.str "zero"]]] 1 (.tup [.str "rec", .tup [.str "nat"],d, .tup [.str "zero"], .tup [.str "zero"]]) ?_ (λH R h=>⟨_,rfl,_,_,rfl,rfl,by show R (V.int (b-6)) H;rw[e];exact h⟩) rfl (by simp only[bS,dg];decide) (fin _ (AZ l wf n n) ?_ ?_);·repeat' first|exact gy|exact eV|apply dU|apply gG|exact gI rfl (by assumption)|(simp only[bS,dg];decide)
    ·apply KM.d0;with_reducible repeat' first|apply KM.n9|apply KM.nY|apply KM.q0|apply KM.q4|apply KM.q3|apply KM.q2|apply KM.q1|lia
    ·simp only[aG,aO];lia
def Ln(K:PySem.W.Frag):Sp:=λvs H Q _=>∃(a p c:Addr)(ns:List Int)(i:Int)(k:Bool)(d:D)(v:V),vs=[.ref a, .ref p,v]/\Sg K a p c ns H i/\i<2^48/\Rep H d v/\bu ay k d=true/\depth d<=16/\aG d<=300000/\∀(e:Bool)(d':D)(b:V)(H':Hp)(i':Int),Ou K a p c ns H i e 40 300000 100 d' b H' i'->Q b H'
theorem gh:aT ["_law_script","_law_tape","_law_thing_here","_law_many","_law_k"] ["_law_script","_law_tape","_law_thing_here"] (ar ig):=⟨rfl,rfl,rfl,by decide+kernel,rfl,by decide+kernel,by decide+kernel⟩
theorem Ee(D:Df K mg "_law_under" ig ["_law_script","_law_tape","_law_thing_here"])(M:Mg mg t)(L:bx P w K mg bF "_law_draw" (1) Bi (d_ K))(U:bx P w K mg bF "_law_wrapped" (2) ["_law_script","_law_tape","_law_thing_here"] (Oo K))(T:bx P w K mg bF "_law_measured" (172) ["_law_thing_here"] (xD 41))(S:bx P w K mg bF "_law_great" (173) ["_law_thing_here"] (BL 41)):bx P w K mg bF "_law_under" (174) ["_law_script","_law_tape","_law_thing_here"] (Ln K):=by
 refine D.ok gh (λvs H Q E h=>?_) (λbase f cZ A outer s H vs Q E e h=>?_);·obtain⟨a,p,c,ns,i,k,d,v,rfl,_⟩:=h;rfl
 obtain⟨a,p,c,ns,i,k,d,v,rfl,g,hi,r,wf,hdp,hkn,q⟩:=h;have i0:=g.T.i0;refine⟨_,(ah (bf (aA lJ (aI L e.m rfl aM (ae (pv 0) (ae (pv 1) (ae ai ag)))) ai (aR _)) (ak (aw (pv 2))) aK) (ah (aH (i:=3) gh.nd rfl (cq rfl) (aI L e.m rfl aM (ae (pv 0) (ae (pv 1) (ae ai ag))))) (ah (fk PassesOwn.never rfl (eR rfl M.ia (ae (aJ bH (pv 3) (aS aU (aI T e.m rfl aM (ae (pv 2) ag)) ai (λ_ _=>rfl))) ag)) (bJ (i:=4) gh.nd rfl (cq rfl)) (ak (aH (i:=2) gh.nd rfl (cq rfl) (aI U e.m rfl aM (ae (pv 0) (ae (pv 1) (ae (pv 2) ag))))))) (ah (bf (l0 (aI S e.m rfl aM (ae (pv 2) ag))) (ak (aw (aE (ae aq ag)))) aK) (ak (aw (pv 2))))))),?_⟩;try dsimp only[gV,cP]
 refine X7 ?_;intro _ _ _ _ _;refine⟨_,rfl,_,rfl,a,p,ns,i,5,rfl,g.T,(by lia),(by decide),λz1 X _ _ B h1=>?_⟩;have m:=g.next B h1 (by lia);have O:=g.rep B r;refine⟨_,_,rfl,rfl,_,rfl,ba (λ_=>?_) (λ_=>?_)⟩;·exact⟨_,rfl,q k d v X (i+1) ⟨O,wf,by lia,hkn,B,m,by lia,by lia⟩⟩
 refine⟨_,rfl,_,rfl,a,p,ns,i+1,40,rfl,m.T,(by lia),(by decide),λmany H2 m0 m1 I h2=>?_⟩;have g2:=m.next I h2 (by lia);have R:=m.rep I O;have d1:1<=depth d:=by obtain⟨x,ps,rfl⟩:=cG wf;simp only[depth,aN];lia
 refine⟨_,rfl,_,rfl,d,v,rfl,R,⟨⟨k,wf⟩,by lia,by lia⟩,λq3 c3 H3 G _ _ h3=>?_⟩;have g3:=g2.mono G;have r3:=R.mono G;have x3:=B.trans (I.trans G.x);refine⟨q3,_,_,_,rfl,rfl,bU.of h3,aL (j:=1) rfl,_,_,rfl,rfl,_,rfl,(by show-(2^62)<=many-((depth d:Nat):Int);lia),(by show many-((depth d:Nat):Int)<2^62;lia),?_⟩;show∃W:Nat->Nat->L2.St->Hp->Prop,_;let Z:Nat->L2.St->Hp->Prop:=(λj J H'=>∃(d':KM.D)(b:V)(i':Int)(F:Option V),J=[some (.ref a),some (.ref p),some b,some (.int many),F]/\Rep H' d' b/\bu ay k d'=true/\depth d'<=depth d+j/\aG d'<=aG d+4*j/\bD p H H'/\Sg K a p c ns H' i'/\i+2<=i'/\i'<=i+2+j);refine iw (many-((depth d:Nat):Int)).toNat Z ?_ ?_ ?_;·exact⟨d,v,i+1+1,none,rfl,r3,wf,by lia,by lia,x3,g3,by lia,by lia⟩
 ·rintro j J Y hj⟨d',b,i',F,rfl,u,y,dp4,kn4,C,n,lo4,hi4⟩;refine⟨hj,?_⟩;rintro x' H4'⟨rfl,rfl⟩;refine⟨_,rfl,_,rfl,_,rfl,a,p,c,ns,i',k,d',b,rfl,n,(by lia),u,y,λd5 v5 N i5 o=>?_⟩;have a1:=o.dp;have a2:=o.kn;have a3:=o.lo;have a4:=o.hi;exact⟨d5,v5,i5,_,rfl,o.r,o.wf,by lia,by lia,C.trans o.sx,o.g,by lia,by lia⟩
 ·rintro J Y⟨d',b,i',F,rfl,u,y,dp4,kn4,C,n,lo4,hi4⟩;refine⟨bN _,?_⟩;refine⟨_,rfl,d',b,rfl,u,⟨⟨k,y⟩,by lia,by lia⟩,λN l=>⟨_,rfl,?_⟩⟩;refine ba (λ_=>?_) (λcv=>?_);·refine⟨(c7 rfl),λq1 e1=>?_⟩;exact q false _ _ _ _ (made (C.trans l.x) (n.mono l) e1 (rs gY r0) jq (by apply KM.d0;with_reducible repeat' first|apply KM.n9|apply KM.nY|apply KM.q0|apply KM.q4|apply KM.q3|apply KM.q2|apply KM.q1|lia) (by simp only[aG,aO];lia) (by lia) (by lia))
  ·have cv:dz d'=false:=by first|exact Bool.eq_false_iff.mpr cv|exact(Bool.or_eq_false_iff.mp (show(dz d'||eM d')=false from Bool.eq_false_iff.mpr cv)).1
   have hv:¬(aG d'>600\/depth d'>40):=by intro z;unfold dz at cv;simp at cv;lia
   exact⟨_,rfl,q k d' b N i' ⟨u.mono l,y,by lia,by lia,C.trans l.x,n.mono l,by lia,by lia⟩⟩
end K24
end
section
namespace L3
open PySem PySem.Spec PyProof.Rows L2
theorem jY{X:Cx}{K:PySem.W.Frag}{a C:Addr}{oe:Obj}(f:X.base.get? a=some oe)(hc:oe.cls= .ref C)(d:X.K=K:=by rfl):iL X (.builtin "isinstance") (λxs H Q=>∃y c b,xs=[.ref a,y]/\oW K C/\(∀u,RelV y u->u=c)/\PySem.W.kitOne K (.ref C) c=some b/\Q (.bl b) H):=by subst d;intro pins s σ H xs us Q I r h;obtain⟨y,c,b,rfl,G,inj,e,q⟩:=h;obtain⟨u,v,rfl,g,i⟩:=r.two;cases g;obtain rfl:=inj v i;exact PySem.W.kia_one (p_ G) I.kK ⟨oe,I.bk a oe f,hc⟩ e (λz=>nomatch z) λtk=>⟨.bl b,H,I.tok tk,rfl,q⟩
theorem K0:∀{cs:List Addr}{us:List Value},Vals (cs.map V.ref) us->us=cs.map Value.ref|[],_, .nil=>rfl|c::cs,_, .cons r t=>by cases r;rw[K0 t];rfl
theorem LR{X:Cx}{K:PySem.W.Frag}{a C:Addr}{oe:Obj}(g:X.base.get? a=some oe)(hc:oe.cls= .ref C)(c:X.K=K:=by rfl):iL X (.builtin "isinstance") (λxs H Q=>∃(tp:Addr)(cs:List Addr)(b:Bool),xs=[.ref a, .ref tp]/\oW K C/\H tp=some (.tup (cs.map V.ref))/\PySem.W.kitAny K (.ref C) (cs.map Value.ref)=some b/\Q (.bl b) H):=by subst c;intro pins s σ H xs us Q I r h;obtain⟨tp,cs,b,rfl,G,i,e,q⟩:=h;obtain⟨u,v,rfl,k,l⟩:=r.two;cases k;cases l;obtain⟨z,m,j,⟨oc,od,o,DA⟩,f,d,n,hd⟩:=I.cj tp _ i;have :=K0 j;subst this;cases d;cases hd;have ht:=f;exact PySem.W.kia_tup (p_ G) I.kK ⟨oe,I.bk a oe g,hc⟩ ht e (λz=>nomatch z) λtk=>⟨.bl b,H,I.tok tk,rfl,q⟩
end L3
end
section
namespace L3
open PySem PySem.Spec PyProof.Rows L2 KM
noncomputable def XH(C a:Addr)(sp:Heap->Sp)(E:XK)(t:TA):TE:=λσ H Q=>t σ H λvs b=>∀(b':Heap)(oe:Obj),oe.cls= .ref C->b'.get? a=some oe->sp b' vs b Q E
theorem Y0{X:Cx}{CX:oX}{x:Str}{k:Nat}{ps:List Str}{sp:Heap->Sp}{E:XK}{e:Expr}{es:List Expr}{t:TA}{p g:Pos}{a C:Addr}{oe:Obj}(w:(a,oe)∈X.pn)(o:oe.cls= .ref C)(F:ml X.prog X.w X.K X.mg CX x k ps sp)(y:da k X.A)(n:Gl X x)(z:Passes CX X E)(ha:PA X (e::es) t)(j:(x==("__debug__":Str))=false:=by decide)(l:starEach (e::es) X.env=(false,eval e X.env)::starEach es X.env:=by rfl)(v:(backTo g (starEach es X.env)).any (·.1)=false:=by rfl)(hc:X.calm=true:=by rfl):PE X (.Call (.Name x p) (e::es) [] g) (XH C a sp E t):=by
 obtain⟨f,fd,F,m,kp,b⟩:=F;intro pins s σ H Q I h;refine wpAny_Call_Name_kw (jw I n m ?_ j);refine PySem.W.callWith_K (h₀:=X.base) I.ok.mod.Ly kp (b9 (ha g pins s σ H _ I h) λus s1⟨vs,d,c,r,q⟩=>⟨c.kK,?_⟩) l v;have q:=q _ oe o ((CQ c).pin (a,oe) w);have hl:us.length=ps.length:=by rw[<-r.length];exact(F (zG s1.heap d (jT X.stack))).len _ _ _ _ q
 have i:=b s1 us c.kK (by rw[lV];exact hl);rw[lV]at i;refine wpAny_call (codeAny_mono ((F _).run X.A X.stack s1 d ⟨us,[]⟩ us vs Q E y (Nn c hc) i r q) λA s' hq=>?_);cases A with|error e=>exact z pins σ d s1 e s' c hq|ok fl=>cases fl with|ret u=>exact c.after hq|next=>exact False.elim hq|brk=>exact False.elim hq|cont=>exact False.elim hq
end L3
end
section
namespace K24
open PySem L2 L3 KM PyProof.Rows
seal L2.PE L2.PS L2.iO L2.PT L2.PW L2.PA L2.PG L2.Bu L2.PI L2.PC L2.PO L2.AY L2.PK L3.A8 L3.PH L3.PB
variable{P:Program}{w:World}{K:PySem.W.Frag}{mg:Str->Option Value}{base:Heap}{t:xV}
noncomputable def D7(t:xV):List Addr:=[t.yx,t.QR,t.Ql,t.Lh,t.Kg,t.Oy,t.NG,t.Pz,t.Ao,t.zT]
structure Ek(K:PySem.W.Frag)(t:xV):Prop where
 e0:oV K t.cu
 e1:oV K t.bp
 e2:oV K t.cJ
 e3:oV K t.eP
 x0:PySem.W.subIn K (.ref t.cu) (.ref t.cu)=some true
 c0:oW K t.cu
 s0:PySem.W.subIn K (.ref t.cu) (.ref t.eP)=some true
 v0:PySem.W.kitOne K (.ref t.cu) (.type "ValueError")=some true
 aef:PySem.W.kitOne K (.ref t.cu) (.ref t.cu)=some true
 aes:PySem.W.kitOne K (.ref t.cu) (.ref t.bp)=some false
 adH:PySem.W.kitOne K (.ref t.cu) (.ref t.cJ)=some false
 adM:PySem.W.kitOne K (.ref t.cu) (.ref t.YD)=some false
 a0:PySem.W.kitAny K (.ref t.cu) ((D7 t).map Value.ref)=some false
 c1:oW K t.bp
 s1:PySem.W.subIn K (.ref t.bp) (.ref t.eP)=some true
 v1:PySem.W.kitOne K (.ref t.bp) (.type "ValueError")=some true
 aeb:PySem.W.kitOne K (.ref t.bp) (.ref t.cu)=some false
 afc:PySem.W.kitOne K (.ref t.bp) (.ref t.bp)=some true
 aea:PySem.W.kitOne K (.ref t.bp) (.ref t.cJ)=some false
 ad1:PySem.W.kitOne K (.ref t.bp) (.ref t.YD)=some false
 a1:PySem.W.kitAny K (.ref t.bp) ((D7 t).map Value.ref)=some false
 c2:oW K t.cJ
 s2:PySem.W.subIn K (.ref t.cJ) (.ref t.eP)=some true
 v2:PySem.W.kitOne K (.ref t.cJ) (.type "ValueError")=some true
 aeo:PySem.W.kitOne K (.ref t.cJ) (.ref t.cu)=some false
 adT:PySem.W.kitOne K (.ref t.cJ) (.ref t.bp)=some false
 aeH:PySem.W.kitOne K (.ref t.cJ) (.ref t.cJ)=some true
 ae2:PySem.W.kitOne K (.ref t.cJ) (.ref t.YD)=some false
 a2:PySem.W.kitAny K (.ref t.cJ) ((D7 t).map Value.ref)=some false
structure Wdc(K:PySem.W.Frag)(t:xV)(C:Addr)(b0 b1 b2 b3:Bool):Prop where
 c:oW K C
 s:PySem.W.subIn K (.ref C) (.ref t.eP)=some true
 v:PySem.W.kitOne K (.ref C) (.type "ValueError")=some true
 k0:PySem.W.kitOne K (.ref C) (.ref t.cu)=some b0
 k1:PySem.W.kitOne K (.ref C) (.ref t.bp)=some b1
 k2:PySem.W.kitOne K (.ref C) (.ref t.cJ)=some b2
 k3:PySem.W.kitOne K (.ref C) (.ref t.YD)=some b3
 l:PySem.W.kitAny K (.ref C) ((D7 t).map Value.ref)=some false
theorem Ek.w0(X:Ek K t):Wdc K t t.cu true false false false:=⟨X.c0,X.s0,X.v0,X.aef,X.aes,X.adH,X.adM,X.a0⟩
theorem Ek.w1(X:Ek K t):Wdc K t t.bp false true false false:=⟨X.c1,X.s1,X.v1,X.aeb,X.afc,X.aea,X.ad1,X.a1⟩
theorem Ek.w2(X:Ek K t):Wdc K t t.cJ false false true false:=⟨X.c2,X.s2,X.v2,X.aeo,X.adT,X.aeH,X.ae2,X.a2⟩
inductive Pat:Bool->Bool->Bool->Bool->Str->Prop|gr:Pat true false false false "great"|pl:Pat false true false false "place"|st:Pat false false true false "step"|dr:Pat false false false true "dry"
def V_(K:PySem.W.Frag)(t:xV)(C:Addr)(x:Str):Prop:=∃b0 b1 b2 b3,Wdc K t C b0 b1 b2 b3/\Pat b0 b1 b2 b3 x
def PD(K:PySem.W.Frag)(t:xV)(base:Heap):Sp:=λvs H Q _=>∃(a C:Addr)(oe:Obj)(x:Str),vs=[.ref a]/\base.get? a=some oe/\oe.cls= .ref C/\V_ K t C x/\∀H',aQ H H'->Q (.str x) H'
theorem kF:aT ["_law_e","_law_found","_law_later"] ["_law_e"] (ar jl):=⟨rfl,rfl,rfl,by decide+kernel,rfl,by decide+kernel,by decide+kernel⟩
theorem FI(D:Df K mg "_law_word" jl ["_law_e"])(M:Mg mg t):ml P w K mg bF "_law_word" 1 ["_law_e"] (PD K t):=by
 refine D.okB kF (λbase vs H Q E h=>?_) (λbase f cZ A outer s H vs Q E v h=>?_);·obtain⟨a,C,oe,x,rfl,_⟩:=h;rfl
 obtain⟨a,C,oe,x,rfl,g,j,⟨b0,b1,b2,b3,X,o⟩,q⟩:=h;refine⟨_,(ah (aH (i:=1) kF.nd rfl (cq rfl) (bR (ae (bz (jY (K:=K) g j) rfl M.cF cx (ae (pv 0) (ae (cM M.g_Great rfl) ag))) (ae (bz (jY (K:=K) g j) rfl M.cF cx (ae (pv 0) (ae (cM M.g_NoPlace rfl) ag))) (ae (bz (jY (K:=K) g j) rfl M.cF cx (ae (pv 0) (ae (cM M.g_NoStep rfl) ag))) (ae (bz (jY (K:=K) g j) rfl M.cF cx (ae (pv 0) (ae (cM M.g_Dry rfl) ag))) ag)))))) (ah (aH (i:=2) kF.nd rfl (cq rfl) (bz (LR (K:=K) g j) rfl M.cF cx (ae (pv 0) (ae (aE (ae (cM M.g_NoVariable rfl) (ae (cM M.g_NoName rfl) (ae (cM M.g_NotAll rfl) (ae (cM M.g_NotSome rfl) (ae (cM M.g_NotSame rfl) (ae (cM M.g_Unlike rfl) (ae (cM M.g_NoText rfl) (ae (cM M.g_NoWord rfl) (ae (cM M.g_TwiceTold rfl) (ae (cM M.g_NotClosed rfl) ag))))))))))) ag)))) (ah (bf (L2.PW.pt (lF (l0 (pv 2)) (lF (G9 (l0 (bz (jY (K:=K) g j) rfl M.cF cx (ae (pv 0) (ae (IC M.Co zt rfl) ag))))) (i9 (aA Qt (pM PySem.F.plainAttrs_list PySem.F.slot_list_count PySem.F.type_list_count MV (pv 1) (ae Az ag)) ai (aR _)))))) (ak (aw aq)) aK) (ak (aw (aS bK (bR (ae aq (ae aq (ae aq (ae aq ag))))) (pM PySem.F.plainAttrs_list PySem.F.slot_list_index PySem.F.type_list_index MI (pv 1) (ae Az ag)) (λ_ _=>rfl))))))),?_⟩;try dsimp only[gV,r]
 refine Et ?_;intro _ _ _ _;refine⟨_,rfl, .ref t.cu, .ref t.cu,b0,rfl,X.c,λu h=>h,X.k0,_,rfl, .ref t.bp, .ref t.bp,b1,rfl,X.c,λu h=>h,X.k1,_,rfl, .ref t.cJ, .ref t.cJ,b2,rfl,X.c,λu h=>h,X.k2,_,rfl, .ref t.YD, .ref t.YD,b3,rfl,X.c,λu h=>h,X.k3,(c7 rfl),λp m=>?_⟩;have s1:=ao m (.lst [V.bl b0,V.bl b1,V.bl b2,V.bl b3]);have h1:(upd H p (.lst [V.bl b0,V.bl b1,V.bl b2,V.bl b3])) p=some (.lst (([b0,b1,b2,b3]:List Bool).map V.bl)):=aj;generalize upd H p (.lst [V.bl b0,V.bl b1,V.bl b2,V.bl b3])=k at s1 h1⊢;refine⟨_,rfl,(c7 rfl),λtp n=>⟨tp,D7 t,false,rfl,X.c,aj,X.l,?_⟩⟩;have t2:=ao n (.tup ((D7 t).map V.ref));have h2:=t2 _ _ h1;show(λl=>_) (upd k tp (.tup ((D7 t).map V.ref)));generalize upd k tp (.tup ((D7 t).map V.ref))=l at t2 h2⊢;refine⟨_,rfl,false,rfl,jZ ?_⟩;refine⟨_,rfl, .ty "ValueError", .type "ValueError",true,rfl,X.c,λu h=>h,X.v,true,rfl,jZ ?_⟩;have fin:∀(i:Nat)(y:Str),([V.str "great", .str "place", .str "step", .str "dry"])[i]?=some (.str y)->y=x->∀b H',aQ l H'->H' b=some (.lst [V.str "great", .str "place", .str "step", .str "dry"])->(bE K H' b [V.str "great", .str "place", .str "step", .str "dry"]/\lX [V.str "great", .str "place", .str "step", .str "dry"] ((i:Nat):Int)=some (.str x)/\Q (.str x) H'):=λi y e1 e2 b H' s' h'=>⟨bE.of h',e2▸aL e1,q _ (s1.trans (t2.trans s'))⟩;cases o with|gr=>refine⟨_,rfl, .inl ⟨rfl,_,bE.of h2⟩,p,_,true,rfl,rfl,bE.of h2,rfl,_,rfl,jZ ⟨(c7 rfl),λb e=>?_⟩⟩;have c:=ao e (.lst [V.str "great", .str "place", .str "step", .str "dry"]);obtain⟨f1,f2,d⟩:=fin 0 _ rfl rfl b _ c aj;exact⟨_,rfl, .inl ⟨rfl,_,bE.of (c _ _ h2)⟩,p,_,true,rfl,rfl,bE.of (c _ _ h2),by decide,by decide,b,_,_,_,rfl,rfl,f1,f2,d⟩|pl=>refine⟨_,rfl, .inl ⟨rfl,_,bE.of h2⟩,p,_,true,rfl,rfl,bE.of h2,rfl,_,rfl,jZ ⟨(c7 rfl),λb e=>?_⟩⟩;have c:=ao e (.lst [V.str "great", .str "place", .str "step", .str "dry"]);obtain⟨f1,f2,d⟩:=fin 1 _ rfl rfl b _ c aj;exact⟨_,rfl, .inl ⟨rfl,_,bE.of (c _ _ h2)⟩,p,_,true,rfl,rfl,bE.of (c _ _ h2),by decide,by decide,b,_,_,_,rfl,rfl,f1,f2,d⟩|st=>refine⟨_,rfl, .inl ⟨rfl,_,bE.of h2⟩,p,_,true,rfl,rfl,bE.of h2,rfl,_,rfl,jZ ⟨(c7 rfl),λb e=>?_⟩⟩;have c:=ao e (.lst [V.str "great", .str "place", .str "step", .str "dry"]);obtain⟨f1,f2,d⟩:=fin 2 _ rfl rfl b _ c aj;exact⟨_,rfl, .inl ⟨rfl,_,bE.of (c _ _ h2)⟩,p,_,true,rfl,rfl,bE.of (c _ _ h2),by decide,by decide,b,_,_,_,rfl,rfl,f1,f2,d⟩|dr=>refine⟨_,rfl, .inl ⟨rfl,_,bE.of h2⟩,p,_,true,rfl,rfl,bE.of h2,rfl,_,rfl,jZ ⟨(c7 rfl),λb e=>?_⟩⟩;have c:=ao e (.lst [V.str "great", .str "place", .str "step", .str "dry"]);obtain⟨f1,f2,d⟩:=fin 3 _ rfl rfl b _ c aj;exact⟨_,rfl, .inl ⟨rfl,_,bE.of (c _ _ h2)⟩,p,_,true,rfl,rfl,bE.of (c _ _ h2),by decide,by decide,b,_,_,_,rfl,rfl,f1,f2,d⟩
noncomputable def NM(x:Str):D:= .tup [.str "refused", .str x]
noncomputable def wrD:Wr->D| .th d=> .tup [.str "thing",d]| .pl=>NM "place"| .st=>NM "step"| .gr=>NM "great"
theorem Q9{inb:Str->Bool}{B:Str->D}(c:BkB inb B):∀(rows:List Lg)(d d':D),Td d->pO inb B d rows= .th d'->Td d'
 |[],d,d',h,e=>by rw[pO]at e;cases e;exact h
 |r::rest,d,d',h,e=>by
  cases a:goto d r.1 with
   |none=>rw[BN a]at e;cases e
   |some x=>
    by_cases b:cI inb x= .str r.2;·cases hb:Pf B d r.1 x r.2 with|true=>rw[O9 a b hb]at e;cases e|false=>rw[Rl a b hb]at e;exact Q9 c rest _ d' ((stC c h a b).2 hb) e
    ·rw[Dx a b]at e;cases e
theorem A4{H:Hp}{d:D}{v:V}{ds:List D}{vs:List V}(r:Rep H d v)(t:bg H ds vs):bg H (d::ds) (v::vs):=rs r t
def ON(T1 T2:Addr):Sp:=λvs H Q _=>∃(B:Str->D)(d:D)(v:V)(b lg:Addr)(aF:List (Key×V))(rows:List Lg)(us:List V),vs=[v, .ref lg, .ref b]/\(H lg=some (.lst us)\/H lg=some (.tup us))/\Fb H B d v b aF rows us T1 T2/\∀(u:V)(H':Hp),aQ H H'->Rep H' (wrD (pO (eE aF) B d rows)) u->Q u H'
theorem pV:aT ["_law_thing_here","_law_log_here","_law_book_here","_law_e"] ["_law_thing_here","_law_log_here","_law_book_here"] (ar ja):=⟨rfl,rfl,rfl,by decide+kernel,rfl,by decide+kernel,by decide+kernel⟩
theorem G_{T1 T2:Addr}(D:Df K mg "_law_told" ja ["_law_thing_here","_law_log_here","_law_book_here"])(M:Mg mg t)(X:Ek K t)(u:bx P w K mg (f9 P w) "walked" (129) ["thing","log","book"] (J9 t.bp t.cJ t.cu T1 T2))(r:ml P w K mg bF "_law_word" 1 ["_law_e"] (PD K t)):bx P w K mg bF "_law_told" (140) ["_law_thing_here","_law_log_here","_law_book_here"] (ON T1 T2):=by
 refine D.ok pV (λvs H Q E h=>?_) (λbase f cZ A outer s H vs Q E m h=>?_);·obtain⟨B,d,v,b,lg,aF,rows,us,rfl,_⟩:=h;rfl
 obtain⟨B,d,v,b,lg,aF,rows,us,rfl,y,W,q⟩:=h;have o:=X.e3;have hh:=m.hd (by decide);refine⟨_,(ak (Hk rfl rfl rfl (So u m.m rfl rfl (ae (pv 0) (ae (pv 1) (ae (pv 2) ag)))) (ac9 (i:=3) true pV.nd rfl rfl o M.g_KeeperError rfl (λ_=>hh) (λa C oe j=>(ak (aw (aE (ae aq (ae (Y0 eD j r (m.m.mark) rfl aM (ae (pv 3) ag)) ag)))))) Gu))),?_⟩;try dsimp only[gV,I]
 have ref:∀(C:Addr)(x:Str),V_ K t C x->(∀(c:Hp)(p:Addr),aQ H c->c p=none->Q (.ref p) (upd c p (.tup [V.str "refused", .str x])))->True:=λ_ _ _ _=>trivial;have rf:∀(x:Str),x.length<=1000->wrD (pO (eE aF) B d rows)=NM x->∀(c:Hp)(p:Addr),aQ H c->c p=none->Q (.ref p) (upd c p (.tup [V.str "refused", .str x])):=λx F e c p s1 g=>by rw[e]at q;exact q _ _ (s1.trans (ao g _)) (dQ g (A4 gY (A4 ⟨rfl,F⟩ r0)))
 clear ref;refine⟨_,rfl,_,rfl,_,rfl,B,d,v,b,lg,aF,rows,us,rfl,y,W,λz c d' s1 e td G=>λp g=>?_,λc s1 e=>⟨_,rfl,λa1 n=>⟨true,X.s1,lZ ?_⟩⟩,λc s1 e=>⟨_,rfl,λa1 n=>⟨true,X.s2,lZ ?_⟩⟩,λc s1 e=>⟨_,rfl,λa1 n=>⟨true,X.s0,lZ ?_⟩⟩⟩;·rw[e]at q;exact q _ _ (s1.trans (ao g _)) (dQ g (A4 gY (A4 G r0)))
 ·exact⟨_,rfl,λb' oe j l=>⟨a1,_,oe,"place",rfl,l,j,⟨_,_,_,_,X.w1, .pl⟩,λk s2=>⟨(c7 rfl),λp g=>rf "place" (by decide+kernel) (by rw[e];rfl) k p (s1.trans s2) g⟩⟩⟩
 ·exact⟨_,rfl,λb' oe j l=>⟨a1,_,oe,"step",rfl,l,j,⟨_,_,_,_,X.w2, .st⟩,λk s2=>⟨(c7 rfl),λp g=>rf "step" (by decide+kernel) (by rw[e];rfl) k p (s1.trans s2) g⟩⟩⟩
 ·exact⟨_,rfl,λb' oe j l=>⟨a1,_,oe,"great",rfl,l,j,⟨_,_,_,_,X.w0, .gr⟩,λk s2=>⟨(c7 rfl),λp g=>rf "great" (by decide+kernel) (by rw[e];rfl) k p (s1.trans s2) g⟩⟩⟩
theorem L5{x:Str}{ps:List D}{i:Nat}{p:D}(h:(aB x ps)[i]?=some p):dM (.tup (.str x::ps)) ((i:Nat):Int)=some p:=by unfold dM;rw[if_pos (Int.natCast_nonneg i)];exact h
mutual theorem iR:∀(pl:List Nat)(d:D),∀r∈bW pl d,∃q,r.1=pl++q/\goto d (AQ q)=some r.2
 |pl, .tup (.str x::ps),r,h=>by
  rw[jX]at h;rcases List.mem_cons.mp h with rfl|h;·exact⟨[],by simp,rfl⟩
  ·have key:∀r∈fi pl 0 (aB x ps),∃(i:Nat)(p:D)(q:List Nat),(aB x ps)[i]?=some p/\r.1=pl++(0+i)::q/\goto p (AQ q)=some r.2:=by
    unfold aB;split;·intro r h;rw[fi]at h;cases h
    ·exact yr pl 0 ps
   obtain⟨i,p,q,h1,h2,h3⟩:=key r h;rw[Nat.zero_add]at h2;exact⟨i::q,h2,by rw[<-h3];exact eS (L5 h1)⟩
 |pl, .tup [],r,h=>by simp[bW]at h
 |pl, .tup (.a_::_),r,h=>by simp[bW]at h
 |pl, .tup (.bl _::_),r,h=>by simp[bW]at h
 |pl, .tup (.int _::_),r,h=>by simp[bW]at h
 |pl, .tup (.tup _::_),r,h=>by simp[bW]at h
 |pl, .a_,r,h=>by simp[bW]at h
 |pl, .bl _,r,h=>by simp[bW]at h
 |pl, .int _,r,h=>by simp[bW]at h
 |pl, .str _,r,h=>by simp[bW]at h theorem yr:∀(pl:List Nat)(j:Nat)(ds:List D),∀r∈fi pl j ds,∃(i:Nat)(p:D)(q:List Nat),ds[i]?=some p/\r.1=pl++(j+i)::q/\goto p (AQ q)=some r.2
 |pl,j,[],r,h=>by simp[fi]at h
 |pl,j,d::ds,r,h=>by
  rw[fi]at h;rcases List.mem_append.mp h with h|h;·obtain⟨q,h1,h2⟩:=iR (pl++[j]) d r h;exact⟨0,d,q,rfl,by rw[h1];simp,h2⟩
  ·obtain⟨i,p,q,h1,h2,h3⟩:=yr pl (j+1) ds r h;exact⟨i+1,p,q,by simpa using h1,by rw[h2,show j+1+i=j+(i+1)by lia],h3⟩end
theorem Jw:∀(pl:List Nat)(ds:List D)(j i:Nat)(p:D),ds[i]?=some p->∀r∈bW (pl++[j+i]) p,r∈fi pl j ds|pl,[],j,i,p,e,r,h=>by simp at e|pl,d::ds,j,0,p,e,r,h=>by simp at e;subst e;rw[fi];exact oU _ h|pl,d::ds,j,i+1,p,e,r,h=>by rw[fi];refine jR _ (Jw pl ds (j+1) i p (by simpa using e) r ?_);rw[show j+1+i=j+(i+1)by lia];exact h
theorem zQ:∀(pl:List Nat)(d g:D)(q:List Int),Wf d->goto d q=some g->∃b:List Nat,q=AQ b/\(pl++b,g)∈bW pl d
 |pl,d,g,[],h,z=>by rw[goto]at z;cases z;obtain⟨x,ps,k,rfl,_⟩:=jK h;exact⟨[],rfl,by rw[jX,lV];exact eD⟩
 |pl,d,g,i::is,h,z=>by
  cases a:dM d i with
   |none=>rw[gw a]at z;cases z
   |some p=>
    rw[eS a]at z;have c:=j0 h a;obtain⟨x,ps,k,rfl,_⟩:=jK h;unfold dM at a;split at a;·rename_i i0;obtain⟨b,e1,e2⟩:=zQ (pl++[0+i.toNat]) p g is c z;refine⟨i.toNat::b,by rw[e1];show _=((i.toNat:Nat):Int)::_;rw[Int.toNat_of_nonneg i0];rfl,?_⟩;rw[jX];refine eA _ ?_;have :=Jw pl (aB x ps) 0 i.toNat p a _ e2;rw[Nat.zero_add,List.append_assoc]at this;exact this
    ·cases a
noncomputable def Ux(pl:List Int)(d:D):List Rp:=(bW [] d).filter λr=>decide (AQ r.1=pl)
theorem O0{pl:List Int}{d:D}(h:goto d pl=none):Ux pl d=[]:=by unfold Ux;rw[List.filter_eq_nil_iff];intro r a z;obtain⟨q,e1,e2⟩:=iR [] d r a;rw[List.nil_append]at e1;rw[<-e1,of_decide_eq_true z,h]at e2;cases e2
theorem Ow{pl:List Int}{d e:D}(wf:Wf d)(h:goto d pl=some e):∃r rest,Ux pl d=r::rest/\r.2=e:=by
 obtain⟨q,e1,e2⟩:=zQ [] d e pl wf h;have hm:(([]++q,e):Rp)∈Ux pl d:=by unfold Ux;rw[List.mem_filter];exact⟨e2,decide_eq_true e1.symm⟩
 cases b:Ux pl d with
  |nil=>rw[b]at hm;cases hm
  |cons r rest=>
   refine⟨r,rest,rfl,?_⟩;have a:r∈Ux pl d:=by rw[b];exact eD
   unfold Ux at a;rw[List.mem_filter]at a;obtain⟨c,f1,f2⟩:=iR [] d r a.1;rw[List.nil_append]at f1;rw[<-f1,of_decide_eq_true a.2,h]at f2;exact(Option.some.inj f2).symm
noncomputable def UJ(inb:Str->Bool)(d:D):List Rp:=(bW [] d).filter λr=>decide (cI inb r.2≠ .a_)
theorem OX{inb:Str->Bool}{d:D}(wf:Wf d){r:Rp}(h:r∈UJ inb d):∃y:Str,cI inb r.2= .str y/\goto d (AQ r.1)=some r.2:=by
 unfold UJ at h;rw[List.mem_filter]at h;obtain⟨q,e1,e2⟩:=iR [] d r h.1;rw[List.nil_append]at e1;rw[<-e1]at e2;rcases i_ (inb:=inb) (jA _ _ _ wf e2).1 with z|⟨y,z⟩;·exact absurd z (of_decide_eq_true h.2)
 ·exact⟨y,z,e2⟩
theorem yS{b c:Type}(g:b->Option c):∀l:List b,(List.range l.length).filterMap (λi=>(l[i]?).bind g)=l.filterMap g
 |[]=>rfl
 |a::l=>by
  rw[bS,List.range_succ_eq_map,List.filterMap_cons,List.filterMap_cons,List.filterMap_map];have e:((λi=>((a::l)[i]?).bind g)∘Nat.succ)=λi=>(l[i]?).bind g:=by funext i;simp
  rw[e,yS g l];rfl
theorem kL{b d:Type}(c:b->Bool)(f:b->d):∀l:List b,l.filterMap (λa=>if c a=true then some (f a)else none)=(l.filter c).map f|[]=>rfl|a::l=>by rw[List.filterMap_cons,List.filter_cons];cases h:c a with|true=>simp[kL c f l]|false=>simp[kL c f l]
theorem JZ.sx{H H':Hp}{p T1 T2:Addr}{xs:List V}(h:JZ H T1 T2)(s:bD p H H')(a:H p=some (.lst xs)):JZ H' T1 T2:=⟨s _ _ (λz=>by have :=h.t1;unfold jM at this;rw[z,a]at this;cases this) h.t1,s _ _ (λz=>by have :=h.t2;unfold jM at this;rw[z,a]at this;cases this) h.t2⟩
theorem RP.sx{H H':Hp}{p:Addr}{aF:List (Key×V)}{B:Str->D}(h:RP H aF B)(s:bD p H H')(d:∀vs,H p≠some (.tup vs)):RP H' aF B:=λy e=>let⟨q,f,g,a,b,c⟩:=h y e;⟨q,f,g,a,s _ _ (λz=>d _ (z▸b)) b,c.fJ s d⟩
structure Bs(H:Hp)(B:Str->D)(b:Addr)(aF:List (Key×V))(T1 T2:Addr):Prop where
 hb:H b=some (.dK aF)
 br:RP H aF B
 bb:BkB (eE aF) B
 tb:JZ H T1 T2
theorem Bs.mono{H H':Hp}{B:Str->D}{b:Addr}{aF:List (Key×V)}{T1 T2:Addr}(h:Bs H B b aF T1 T2)(s:aQ H H'):Bs H' B b aF T1 T2:=⟨s _ _ h.hb,h.br.mono s,h.bb,h.tb.mono s⟩
theorem Bs.sx{H H':Hp}{B:Str->D}{b p:Addr}{aF:List (Key×V)}{T1 T2:Addr}{xs:List V}(h:Bs H B b aF T1 T2)(s:bD p H H')(a:H p=some (.lst xs)):Bs H' B b aF T1 T2:=⟨s _ _ (λz=>by have :=h.hb;rw[z,a]at this;cases this) h.hb,h.br.sx s (bG a),h.bb,h.tb.sx s a⟩
theorem Bs.wk{H:Hp}{B:Str->D}{b:Addr}{aF:List (Key×V)}{T1 T2:Addr}(h:Bs H B b aF T1 T2){d:D}{v:V}{rows:List Lg}{us:List V}(r:Rep H d v)(td:Td d)(rr:bg H (rows.map oS) us):Fb H B d v b aF rows us T1 T2:=⟨r,td,rr,h.hb,h.br,h.bb,h.tb⟩
theorem fD:aT ["_law_script","_law_tape","_law_thing_here","_law_book_here","_law_log_here","_law_k","_law_able","_law_row"] ["_law_script","_law_tape","_law_thing_here","_law_book_here"] (ar iB):=⟨rfl,rfl,rfl,by decide+kernel,rfl,by decide+kernel,by decide+kernel⟩
def VN(K:PySem.W.Frag)(T1 T2:Addr):Sp:=λvs H Q _=>∃(a p c:Addr)(ns:List Int)(i:Int)(B:Str->D)(d:D)(v:V)(b:Addr)(aF:List (Key×V)),vs=[.ref a, .ref p,v, .ref b]/\Sg K a p c ns H i/\i<2^50/\Bs H B b aF T1 T2/\Rep H d v/\Td d/\∀(lg:Addr)(rows:List Lg)(us:List V)(H':Hp)(i':Int),H lg=none->H' lg=some (.lst us)->rows.length<=7->(∀r∈rows,r.1.length<=1000)->bg H' (rows.map oS) us->bD p H H'->Sg K a p c ns H' i'->i<=i'->i'<=i+8->Q (.ref lg) H'
theorem LF{T1 T2:Addr}(D:Df K mg "_law_log" iB ["_law_script","_law_tape","_law_thing_here","_law_book_here"])(M:Mg mg t)(X:Ek K t)(aC:bx P w K mg bF "_law_draw" (1) Bi (d_ K))(gA:bx P w K mg bF "_law_rows" (2) ["_law_thing_here","_law_book_here"] BY)(iK:bx P w K mg (f9 P w) "stepped" (128) ["thing","place","book"] (CI t.cu T1 T2)):bx P w K mg bF "_law_log" (140) ["_law_script","_law_tape","_law_thing_here","_law_book_here"] (VN K T1 T2):=by
 refine D.ok fD (λvs H Q E h=>?_) (λbase f cZ A outer s H vs Q E Y h=>?_);·obtain⟨a,p,c,ns,i,B,d,v,b,aF,rfl,_⟩:=h;rfl
 obtain⟨a,p,c,ns,i,B,d,v,b,aF,rfl,g,hi,W,rd,td,q⟩:=h;have nP:=X.e0;have hu:=ql Y;have hh:=Y.hd (by decide);have i0:=g.T.i0;refine⟨_,(ah (aH (i:=4) fD.nd rfl (cq rfl) (bR ag)) (ah (fk PassesOwn.never rfl (eR rfl M.ia (ae (aI aC Y.m rfl aM (ae (pv 0) (ae (pv 1) (ae ai ag)))) ag)) (bJ (i:=5) fD.nd rfl (cq rfl)) (ah (BK (ix:=6) (N':=["_law_row"]) (own:=1) (fr:=[]) fD.nd rfl rfl rfl (j8 (N:=["_law_script","_law_tape","_law_thing_here","_law_book_here","_law_log_here","_law_k","_law_able","_law_row"]) (sc:=ar iB) rfl rfl rfl (by decide+kernel)) (gm (aI gA Y.m rfl aM (ae (pv 2) (ae (pv 3) ag)))) (gU (by decide)) (λ_ _ _=>(bJ (i:=0) (show List.Nodup (["_law_row"]:List Str)by decide+kernel) rfl (Or.inl rfl))) (λ_ _ _=>(A1 (aA TU (aS (Hx (K:=K)) (pv 0) ai (λ_ _=>rfl)) lW (aR _)))) (λ_ _ _=>(pv 0))) (ah (bf (aA (Di hu) (pv 6) (bR ag) (aR _)) (ak (aw (pv 4))) aK) (ah (aH (i:=7) fD.nd rfl (cq rfl) (aS bK (pv 6) (aJ e9 (aI aC Y.m rfl aM (ae (pv 0) (ae (pv 1) (ae ai ag)))) (bz bC rfl M.gE eK (ae (pv 6) ag))) (λ_ _=>rfl))) (ah (uD (pM PySem.F.plainAttrs_list PySem.F.slot_list_append PySem.F.type_list_append iA (pv 4) (ae (aE (ae (aS aU (pv 7) ai (λ_ _=>rfl)) (ae (aS aU (pv 7) ai (λ_ _=>rfl)) ag))) ag))) (ak (Hk rfl rfl rfl (P4 (i:=2) fD.nd rfl (cq rfl) iK Y.m rfl rfl (ae (pv 2) (ae (aS aU (pv 7) ai (λ_ _=>rfl)) (ae (pv 3) ag)))) (HM false nP M.g_Great rfl (λz=>nomatch z) (λa C oe C2=>(ak (aw (pv 4)))) Gu)))))))) (ak (aw (pv 4))))),?_⟩;try dsimp only[gV,cP]
 refine zu ?_;intro _ _ _;refine⟨(c7 rfl),λlg O=>?_⟩;have t0:=ao O (.lst []);have h0:(upd H lg (.lst [])) lg=some (.lst []):=aj;have nlp:lg≠p:=λz=>by subst z;rw[g.T.dq]at O;cases O
 have g0:=g.mono t0;generalize upd H lg (.lst [])=H0 at t0 h0 g0⊢;refine⟨_,rfl,_,rfl,a,p,ns,i,7,rfl,g0.T,(by lia),(by decide),λm H1 m0 m1 x1 h1=>⟨_,rfl,(by lia),(by lia),?_⟩⟩;have g1:=g0.next x1 h1 (by lia);let EJ:Nat->L2.St->Hp->Prop:=(λj bj H'=>∃(n:KM.D)(u:V)(rows:List Lg)(us:List V)(i':Int)(kv av rv:Option V),bj=[some (.ref a),some (.ref p),some u,some (.ref b),some (.ref lg),kv,av,rv]/\H' lg=some (.lst us)/\rows.length<=j/\(∀r∈rows,r.1.length<=1000)/\bg H' (rows.map oS) us/\bD p H H'/\Sg K a p c ns H' i'/\i+1<=i'/\i'<=i+1+j/\Rep H' n u/\Td n);refine iw m.toNat EJ ?_ ?_ ?_;·exact⟨d,v,[],[],i+1,none,none,none,rfl,x1 _ _ nlp h0,bN _,(λr h=>by cases h),rfl,t0.x.trans x1,g1,by lia,by lia,g0.rep x1 (rd.mono t0),td⟩
 ·rintro j bj H2 hj⟨n,u,rows,us,i2,kv,av,rv,rfl,h2,l2,pl2,r2,x2,U,lo2,hi2,rd2,J⟩;refine⟨hj,?_⟩;rintro x' H2'⟨rfl,rfl⟩;have W2:=W.sx x2 g.T.dq;have tkn:=J.kn;have tdp:=J.dp;refine⟨_,rfl,_,rfl,n,u,b,aF,rfl,rd2,J.wf,by lia,by lia,W2.hb,λf fs H3 hf0 s3 hf rf=>⟨f,rfl,⟨fs,bE.of hf⟩,λpa Sk=>?_⟩⟩;have lf:=rf.length;rw[cV]at lf;have R1:=kJ [] n;refine Ai (bW [] n).length (λi=>((bW [] n)[i]?).bind λr=>if decide (cI (eE aF) r.2≠ .a_)=true then some (qN (eE aF) r)else none) Sk (by rw[sizeLine_eq];lia) (λi H4 hi s4=>⟨?_,?_⟩) λvs H4 s4 h4 r4=>⟨?_,?_⟩;·obtain⟨y,hy⟩:∃y,fs[i]?=some y:=⟨_,dD (by lia)⟩;exact⟨_,y,bE.of (s4 _ _ hf),hy⟩
  ·rintro x H5⟨rfl,hy⟩R R0 hR Yu;obtain⟨F,Z⟩:∃r,(bW [] n)[i]?=some r:=⟨_,dD hi⟩;obtain⟨y,hy',ry⟩:=rf.get (i:=i) (d:=qN (eE aF) F) (by rw[jP,Z];rfl);have hx:=hy fs (bE.of (s4 _ _ hf));rw[hy']at hx;cases hx;have ry:=ry.mono s4;obtain⟨qa,_,rfl,Nh,⟨v1,_,rfl,r1,⟨v2,_,rfl,r2',⟨v3,_,rfl,I,rn⟩⟩⟩⟩:=id ry;cases(show _=[]from rn);simp only[Z,Option.bind_some]at hR Yu;refine⟨_,rfl,qa,_,_,v3,rfl,rfl,bU.of Nh,aL (j:=2) rfl,rfl,_,rfl,?_⟩;have wr:Wf F.2:=by obtain⟨q',e1,e2⟩:=iR [] n F (qO Z);exact(jA _ _ _ J.wf e2).1
   rcases i_ (inb:=eE aF) wr with z|⟨y,z⟩;·rw[z]at I;cases(show v3=V.a_ from I);exact jZ (Yu _ (if_neg (by rw[z];simp)) (aQ.refl _))
   ·rw[z]at I;cases(show v3=V.str y from I.1);refine ba (λ_=>⟨_,rfl,hR _ _ _ (if_pos (by rw[z];simp)) (aQ.refl _) ry⟩) (λc=>absurd (by simp) c)
  ·exact⟨_,bE.of (s4 _ _ hf),by lia⟩
  rw[yS,kL]at r4;have r4:bg H4 ((UJ (eE aF) n).map (qN (eE aF))) vs:=r4;have l4:=r4.length;rw[cV]at l4;have s24:=s3.trans s4;refine⟨_,rfl,(c7 rfl),λpe hpe=>?_⟩;have t5:=ao hpe (.lst []);have h5:=t5 _ _ h4;refine⟨pa,pe,vs,rfl,rfl,bE.of h5,bE.of aj,_,rfl,?_⟩;have S:=s24.trans t5;have r5:=r4.mono t5;generalize upd H4 pe (.lst [])=H5 at t5 h5 S r5⊢;have g5:=U.mono S;refine ba (λ_=>?_) (λc=>?_);·exact⟨_,rfl,q lg rows us H5 i2 O (S _ _ h2) (by lia) pl2 (r2.mono S) (x2.trans S.x) g5 (by lia) (by lia)⟩
  have c:vs≠[]:=of_decide_eq_false (Bool.eq_false_iff.mpr c);have afp:0<vs.length:=List.length_pos_iff.mpr c;refine⟨_,rfl,_,rfl,_,rfl,a,p,ns,i2,1000,rfl,g5.T,(by lia),(by decide),λz L z0 z1 x6 h6=>?_⟩;have g6:=g5.next x6 h6 (by lia);have npa:pa≠p:=λe=>by have :=(U.mono s3).T.dq;rw[<-e,Sk]at this;cases this
  have h5a:=x6 _ _ npa h5;refine⟨_,rfl,pa,vs,rfl, .inl (bE.of h5a),_,_,rfl,rfl,(by lia),?_⟩;obtain⟨k,hk,hkl⟩:∃k:Nat,z%((vs.length:Nat):Int)=((k:Nat):Int)/\k<vs.length:=⟨(z%((vs.length:Nat):Int)).toNat,by have :=Int.emod_nonneg z (show((vs.length:Nat):Int)≠0 by lia);lia,by have :=Int.emod_lt_of_pos z (show(0:Int)<((vs.length:Nat):Int)by lia);lia⟩;obtain⟨F,Z⟩:∃r,(UJ (eE aF) n)[k]?=some r:=⟨_,dD (by lia)⟩;obtain⟨uk,huk,RZ⟩:=r5.get (i:=k) (d:=qN (eE aF) F) (by rw[jP,Z];rfl);obtain⟨y,Fq,Aq⟩:=OX J.wf (qO Z);have RZ:=g5.rep x6 RZ;obtain⟨qa,_,rfl,Nh,⟨v1,_,rfl,r1,⟨v2,_,rfl,_,⟨v3,_,rfl,I,rn⟩⟩⟩⟩:=id RZ;cases(show _=[]from rn);rw[Fq]at I;cases(show v3=V.str y from I.1);refine⟨pa,vs,_,_,rfl,rfl,bE.of h5a,by rw[hk];exact aL huk,?_⟩;have h6l:=x6 _ _ nlp (S _ _ h2);refine⟨_,rfl, .inl ⟨rfl,_,bE.of h6l⟩,_,rfl,qa,_,_,_,rfl,rfl,bU.of Nh,aL (j:=0) rfl,_,rfl,qa,_,_,_,rfl,rfl,bU.of Nh,aL (j:=2) rfl,(c7 rfl),λl hp7=>?_⟩;have t7:=ao hp7 (.tup [v1,V.str y]);have Yl:us.length<=7:=by have :=r2.length;rw[cV]at this;lia
  refine⟨lg,us,_,rfl,rfl,t7 _ _ h6l,(by rw[sizeLine_eq];lia),?_⟩;have x7:bD p _ (upd L l (.tup [v1,V.str y])):=S.x.trans (x6.trans t7.x);have x8:bD p H (upd (upd L l (.tup [v1,V.str y])) lg (.lst (us++[V.ref l]))):=λb' o' n' h'=>by rw[aY (aZ h' O)];exact x7 _ _ n' (x2 _ _ n' h')
  have h8:(upd (upd L l (.tup [v1,V.str y])) lg (.lst (us++[V.ref l]))) lg=some (.lst (us++[V.ref l])):=aj;have hp8:(upd (upd L l (.tup [v1,V.str y])) lg (.lst (us++[V.ref l]))) p=some (.lst [.int (i2+1)]):=by rw[aY nlp.symm];exact t7 _ _ h6
  have hl7:=t7 _ _ h6l;have GK:Rep (upd L l (.tup [v1,V.str y])) (oS (AQ F.1,y)) (.ref l):=⟨l,_,rfl,aj,⟨_,_,rfl,by rw[mJ];exact r1.mono t7,⟨_,_,rfl,⟨rfl,I.2⟩,rfl⟩⟩⟩;have rr8:bg (upd (upd L l (.tup [v1,V.str y])) lg (.lst (us++[V.ref l]))) ((rows++[(AQ F.1,y)]).map oS) (us++[V.ref l]):=by rw[mH];exact((r2.fJ x7 (bG U.T.dq)).append (bg.one GK)).iG (o:= .lst (us++[V.ref l])) hl7
  have rd8:=(rd2.fJ x7 (bG U.T.dq)).iG (o:= .lst (us++[V.ref l])) hl7;have rk8:=(RZ.mono t7).iG (o:= .lst (us++[V.ref l])) hl7;have g8:=g.next x8 hp8 (by lia);have W8:=W.sx x8 g.T.dq;generalize upd (upd L l (.tup [v1,V.str y])) lg (.lst (us++[V.ref l]))=H8 at x8 h8 hp8 rr8 rd8 rk8 g8 W8⊢;obtain⟨qa',_,eqa,ad4,⟨v1',_,e1',r18,_⟩⟩:=rk8;cases eqa;obtain⟨ok,nx⟩:=stC W.bb J Aq Fq;have pl8:∀r∈rows++[((AQ F.1,y):Lg)],r.1.length<=1000:=λr hm=>by
   rcases List.mem_append.mp hm with h|h;·exact pl2 r h
   ·rw[List.mem_singleton.mp h];have :=(jA _ _ _ J.wf Aq).2;show(AQ F.1).length<=1000;lia
  have lr:(rows++[((AQ F.1,y):Lg)]).length<=j+1:=by rw[dZ,List.length_singleton];lia
  refine⟨_,rfl,_,rfl,qa,_,_,_,rfl,rfl,bU.of ad4,by rw[e1'];exact aL (j:=0) rfl,_,rfl,B,n,_,u,v1',AQ F.1,b,aF,y,_,rfl,rd8,by rw[mJ];exact r18,W8.hb,W8.br,ok,W8.tb,λz' H9 G R9 r9=>?_,λH9 G hgt=>⟨_,rfl,λa1 UC=>⟨true,X.x0,lZ ?_⟩⟩⟩;·exact⟨_,z',rows++[(AQ F.1,y)],us++[V.ref l],i2+1,_,_,_,rfl,G _ _ h8,lr,pl8,rr8.mono G,x8.trans G.x,g8.mono G,by lia,by lia,r9,nx R9⟩
  ·exact⟨_,rfl,q lg (rows++[(AQ F.1,y)]) (us++[V.ref l]) H9 (i2+1) O (G _ _ h8) (by lia) pl8 (rr8.mono G) (x8.trans G.x) (g8.mono G) (by lia) (by lia)⟩
 ·rintro bj H2⟨n,u,rows,us,i2,kv,av,rv,rfl,h2,l2,pl2,r2,x2,U,lo2,hi2,rd2,J⟩;exact⟨bN _,_,rfl,q lg rows us H2 i2 O h2 (by lia) pl2 r2 x2 U (by lia) (by lia)⟩
theorem oY{H:Hp}:∀{ds:List D}{us:List V}(k:Nat),bg H ds us->bg H (ds.take k) (us.take k)|ds,us,0,_=>by rw[List.take_zero,List.take_zero];exact rfl|[],_,k+1,h=>by cases(show _=[]from h);exact rfl|d::ds,_,k+1,⟨v,vs,e,h,t⟩=>by subst e;exact⟨v,vs.take k,rfl,h,oY k t⟩
theorem Ae{H:Hp}:∀{ds:List D}{us:List V}(k:Nat),bg H ds us->bg H (ds.drop k) (us.drop k)|ds,us,0,h=>h|[],_,k+1,h=>by cases(show _=[]from h);exact rfl|d::ds,_,k+1,⟨v,vs,e,h,t⟩=>by subst e;exact Ae k t
def Ev(b:TE)(σ:L2.St)(a:Hp)(d:D):Prop:=∀(H:Hp)(Q:VK),aQ a H->(∀v H',aQ H H'->Rep H' d v->Q v H')->b σ H Q
def Lr(b:TE)(σ:L2.St)(a:Hp)(rows:List Lg):Prop:=∀(H:Hp)(Q:VK),aQ a H->(∀p us H',H p=none->aQ H H'->H' p=some (.lst us)->bg H' (rows.map oS) us->Q (.ref p) H')->b σ H Q
theorem Lr.cat{t1 t2:TE}{σ:L2.St}{a:Hp}{c d:List Lg}(h1:Lr t1 σ a c)(h2:Lr t2 σ a d)(hl:c.length+d.length<=1000):Lr (C1 CU t1 t2) σ a (c++d):=λH Q s q=>h1 H _ s λj l g o s1 e1 e=>h2 g _ (s.trans s1) λk m n r s2 e2 f=>by have h:=e.length;have i:=f.length;rw[cV]at h i;refine⟨j,k,l,m,rfl,rfl,s2 _ _ e1,e2,(by rw[sizeLine_eq];lia),λp b=>?_⟩;exact q p _ _ (s1.free (s2.free b)) (s1.trans (s2.trans (ao b _))) aj (by rw[mH];exact((e.mono s2).append f).mono (ao b _))
theorem Lr.to{K:PySem.W.Frag}{tp:TE}{σ:L2.St}{a:Hp}{lg:Addr}{us:List V}{rows:List Lg}{j k:Nat}(d:σ[j]?=some (some (.ref lg)))(c:∀(H:Hp)(Q:VK),Q (.int (k:Nat)) H->tp σ H Q)(h:a lg=some (.lst us))(rr:bg a (rows.map oS) us):Lr (tSl (Ts K) (zw j) uy (K5 tp)) σ a (rows.take k):=λH Q s q=>⟨_,d,c H _ ⟨_,rfl,lg,us,rfl,bE.of (s _ _ h),λp b=>q p _ _ b (ao b _) aj (by rw[vq,List.map_take];exact(oY k (rr.mono s)).mono (ao b _))⟩⟩
theorem Lr.frm{K:PySem.W.Frag}{tp:TE}{σ:L2.St}{a:Hp}{lg:Addr}{us:List V}{rows:List Lg}{j k:Nat}(d:σ[j]?=some (some (.ref lg)))(c:∀(H:Hp)(Q:VK),Q (.int (k:Nat)) H->tp σ H Q)(h:a lg=some (.lst us))(rr:bg a (rows.map oS) us):Lr (tSl (Ts K) (zw j) (K5 tp) uy) σ a (rows.drop k):=λH Q s q=>⟨_,d,c H _ ⟨_,rfl,lg,us,rfl,bE.of (s _ _ h),λp b=>q p _ _ b (ao b _) aj (by rw[kO,List.map_drop];exact(Ae k (rr.mono s)).mono (ao b _))⟩⟩
theorem Lr.row{t1:TE}{σ:L2.St}{b:Hp}{r:Lg}(h:Ev t1 σ b (oS r)):Lr (TL (xj t1 Mo)) σ b [r]:=λH Q s q=>h H _ s λv d s1 c=>⟨(c7 rfl),λp a=>q p _ _ (s1.free a) (s1.trans (ao a _)) aj (bg.one (c.mono (ao a _)))⟩
theorem Ev.pr{t1 t2:TE}{σ:L2.St}{a:Hp}{pl:List Int}{r:Str}(h1:Ev t1 σ a (Sa pl))(h2:Ev t2 σ a (.str r)):Ev (SF (xj t1 (xj t2 Mo))) σ a (oS (pl,r)):=λH Q s q=>h1 H _ s λv1 c s1 d=>h2 c _ (s.trans s1) λv2 f s2 e=>⟨(c7 rfl),λp b=>q _ _ (s1.trans (s2.trans (ao b _))) (dQ b (A4 (d.mono s2) (A4 e r0)))⟩
theorem Ev.ix{K:PySem.W.Frag}{σ:L2.St}{b:Hp}{j:Nat}{v:V}{ds:List D}{n:Nat}{d:D}(e:σ[j]?=some (some v))(r:Rep b (.tup ds) v)(hd:ds[n]?=some d):Ev (C1 (T8 K) (zw j) (tC (.int (n:Nat)))) σ b d:=λH Q s q=>by obtain⟨a,us,rfl,ha,rr⟩:=r;obtain⟨u,c,f⟩:=bg.get rr hd;exact⟨_,e,a,us,_,u,rfl,rfl,bU.of (s _ _ ha),aL c,q u H (aQ.refl H) (f.mono s)⟩
theorem Ev.more{K:PySem.W.Frag}{c:TE}{σ:L2.St}{b:Hp}{j:Nat}{v:V}{r:Lg}{z:Int}(f:σ[j]?=some (some v))(k:Rep b (oS r) v)(hl:r.1.length<=1000)(hq:∀(H:Hp)(Q:VK),Q (.int z) H->c σ H Q):Ev (C1 V2 (C1 (T8 K) (zw j) (tC (.int ((0:Nat):Int)))) (SF (xj c Mo))) σ b (Sa (r.1++[z])):=λH Q s q=>by refine Ev.ix (K:=K) (n:=0) f k rfl H _ s λv1 d s1 i=>?_;obtain⟨a,us,rfl,ha,rr⟩:=i;have g:=bg.length rr;rw[cV]at g;refine hq d _ ⟨(c7 rfl),λp e=>?_⟩;have t2:=ao e (.tup [V.int z]);refine⟨a,p,us,_,rfl,rfl,t2 _ _ ha,aj,(by rw[sizeLine_eq,List.length_singleton];lia),λh H' s' h'=>?_⟩;refine q _ _ (s1.trans (t2.trans s')) ⟨h,_,rfl,h',?_⟩;rw[mH];exact((bg.mono (t2.trans s') rr)).append ⟨_,_,rfl,rfl,rfl⟩
theorem Ev.var{σ:L2.St}{a:Hp}{j:Nat}{v:V}{d:D}(b:σ[j]?=some (some v))(r:Rep a d v):Ev (zw j) σ a d:=λH Q s q=>⟨_,b,q v H (aQ.refl H) (r.mono s)⟩
theorem Lr.go{b:TE}{σ:L2.St}{a:Hp}{rows:List Lg}{Q:VK}(L:Lr b σ a rows)(k:∀p us H',a p=none->aQ a H'->H' p=some (.lst us)->bg H' (rows.map oS) us->Q (.ref p) H'):b σ a Q:=L a Q (aQ.refl a) k
noncomputable def lY:List V:=[V.str "fun", .str "zero", .str "next", .str "like", .str "first", .str "second", .str "name", .str "none", .str ""]
def Ea(K:PySem.W.Frag):Sp:=λvs H Q _=>∃(a p c lg d:Addr)(ns:List Int)(i:Int)(rows:List Lg)(us:List V)(inb:Str->Bool)(rs:List Rp)(ws:List V),vs=[.ref a, .ref p, .ref lg, .ref d]/\Sg K a p c ns H i/\i<2^50/\lg≠p/\d≠p/\H lg=some (.lst us)/\bg H (rows.map oS) us/\rows.length<=140/\(∀r∈rows,r.1.length<=1000)/\H d=some (.lst ws)/\bg H (rs.map (qN inb)) ws/\0<rs.length/\∀(b:Addr)(e:List Lg)(f:List V)(H':Hp)(i':Int),b≠p->H' b=some (.lst f)->bg H' (e.map oS) f->e.length<=rows.length+1->bD p H H'->Sg K a p c ns H' i'->i<=i'->i'<=i+4->Q (.ref b) H'
theorem c9:aT ["_law_script","_law_tape","_law_log_here","_law_rows_here","_law_at","_law_way","_law_words","_law_other","_law_word_here","_law_row"] ["_law_script","_law_tape","_law_log_here","_law_rows_here"] (ar gk):=⟨rfl,rfl,rfl,by decide+kernel,rfl,by decide+kernel,by decide+kernel⟩
theorem AX(D:Df K mg "_law_spoilt" gk ["_law_script","_law_tape","_law_log_here","_law_rows_here"])(M:Mg mg t)(J:bx P w K mg bF "_law_draw" (1) Bi (d_ K)):bx P w K mg bF "_law_spoilt" (2) ["_law_script","_law_tape","_law_log_here","_law_rows_here"] (Ea K):=by
 refine D.ok c9 (λvs H Q E h=>?_) (λbase f cZ A outer s H vs Q E N h=>?_);·obtain⟨a,p,c,lg,rl,ns,i,rows,us,inb,rs,ws,rfl,_⟩:=h;rfl
 obtain⟨a,p,c,lg,rl,ns,i,rows,us,inb,rs,ws,rfl,g,hi,O,nrl,A9,rr,R1,qP,hws,rws,lrs,q⟩:=h;have i0:=g.T.i0;have Yl:=rr.length;rw[cV]at Yl;have lws:=rws.length;rw[cV]at lws;refine⟨_,(ah (aH (i:=4) c9.nd rfl (cq rfl) (aJ e9 (aI J N.m rfl aM (ae (pv 0) (ae (pv 1) (ae ai ag)))) (aJ bT (bz bC rfl M.gE eK (ae (pv 2) ag)) ai))) (ah (aH (i:=5) c9.nd rfl (cq rfl) (aI J N.m rfl aM (ae (pv 0) (ae (pv 1) (ae ai ag))))) (ah (aH (i:=6) c9.nd rfl (cq rfl) (bR (ae aq (ae aq (ae aq (ae aq (ae aq (ae aq (ae aq (ae aq (ae aq ag))))))))))) (ah (aH (i:=7) c9.nd rfl (cq rfl) (aS bK (pv 3) (aJ e9 (aI J N.m rfl aM (ae (pv 0) (ae (pv 1) (ae ai ag)))) (bz bC rfl M.gE eK (ae (pv 3) ag))) (λ_ _=>rfl))) (ah (aH (i:=8) c9.nd rfl (cq rfl) (aS bK (pv 6) (aI J N.m rfl aM (ae (pv 0) (ae (pv 1) (ae ai ag)))) (λ_ _=>rfl))) (ah (bf (aA bQ (pv 5) ai (aR _)) (ak (aw (aJ gM (aJ gM (cg dP (pv 2) bI (bZ (pv 4))) (bR (ae (aE (ae (aS aU (pv 7) ai (λ_ _=>rfl)) (ae (pv 8) ag))) ag))) (cg dP (pv 2) (bZ (pv 4)) bI)))) aK) (ah (bf (L2.PW.pt (lF (aA lJ (pv 5) ai (aR _)) (i9 (aA bQ (pv 4) (bz bC rfl M.gE eK (ae (pv 2) ag)) (aR _))))) (ak (aw (pv 2))) aK) (ah (aH (i:=9) c9.nd rfl (cq rfl) (aS bK (pv 2) (pv 4) (λ_ _=>rfl))) (ah (bf (aA bQ (pv 5) ai (aR _)) (ak (aw (aJ gM (aJ gM (cg dP (pv 2) bI (bZ (pv 4))) (bR (ae (aE (ae (aS aU (pv 9) ai (λ_ _=>rfl)) (ae (pv 8) ag))) ag))) (cg dP (pv 2) (bZ (aJ bT (pv 4) ai)) bI)))) aK) (ah (bf (aA bQ (pv 5) ai (aR _)) (ak (aw (aJ gM (aJ gM (cg dP (pv 2) bI (bZ (pv 4))) (bR (ae (aE (ae (aS aU (pv 7) ai (λ_ _=>rfl)) (ae (aS aU (pv 9) ai (λ_ _=>rfl)) ag))) ag))) (cg dP (pv 2) (bZ (aJ bT (pv 4) ai)) bI)))) aK) (ah (bf (aA bQ (pv 5) ai (aR _)) (ak (aw (aJ gM (aJ gM (cg dP (pv 2) bI (bZ (pv 4))) (bR (ae (aE (ae (aJ vK (aS aU (pv 9) ai (λ_ _=>rfl)) (aE (ae (aJ bT ai (pv 4)) ag))) (ae (aS aU (pv 9) ai (λ_ _=>rfl)) ag))) ag))) (cg dP (pv 2) (bZ (aJ bT (pv 4) ai)) bI)))) aK) (ah (bf (aA bQ (pv 5) ai (aR _)) (ak (aw (aJ gM (aJ gM (cg dP (pv 2) bI (bZ (pv 4))) (bR (ae (pv 9) ag))) (cg dP (pv 2) (bZ (pv 4)) bI)))) aK) (ak (aw (aJ gM (cg dP (pv 2) bI (bZ (pv 4))) (cg dP (pv 2) (bZ (aJ bT (pv 4) ai)) bI)))))))))))))))),?_⟩;try dsimp only[gV,cP]
 refine abd ?_;intro _ _ _ _ _ _ _ _ _ _ _ _ _;refine⟨_,rfl,_,rfl,a,p,ns,i,1000,rfl,g.T,(by lia),(by decide),λI H1 z10 z11 x1 h1=>?_⟩;have g1:=g.next x1 h1 (by lia);have aej:=x1 _ _ O A9;refine⟨_,rfl,lg,us,rfl, .inl (bE.of aej),_,_,rfl,rfl,_,_,rfl,rfl,(by lia),?_⟩;obtain⟨k,hk,hkl⟩:∃k:Nat,I%(((us.length:Nat):Int)+1)=((k:Nat):Int)/\k<=us.length:=⟨(I%(((us.length:Nat):Int)+1)).toNat,by have :=Int.emod_nonneg I (show(((us.length:Nat):Int)+1)≠0 by lia);lia,by have :=Int.emod_lt_of_pos I (show(0:Int)<(((us.length:Nat):Int)+1)by lia);lia⟩;show n8 4 (V.int (I%(((us.length:Nat):Int)+1))) _ _ _;rw[hk];refine⟨_,rfl,_,rfl,a,p,ns,i+1,9,rfl,g1.T,(by lia),(by decide),λway X w0 w1 x2 h2=>?_⟩;have g2:=g1.next x2 h2 (by lia);refine⟨(c7 rfl),λpw UQ=>?_⟩;have t3:=ao UQ (.lst lY);have hw3:(upd X pw (.lst lY)) pw=some (.lst lY):=aj;have Y:=g2.mono t3;have npw:pw≠p:=λz=>by rw[z,g2.T.dq]at UQ;cases UQ
 have x3:=x1.trans (x2.trans t3.x);show(λH3=>_) (upd X pw (.lst lY));generalize upd X pw (.lst lY)=H3 at t3 hw3 Y x3⊢;have afi:=x3 _ _ nrl hws;refine⟨_,rfl,_,rfl,_,rfl,a,p,ns,i+1+1,1000,rfl,Y.T,(by lia),(by decide),λW H4 z40 z41 T h4=>?_⟩;have Z:=Y.next T h4 (by lia);have acU:=T _ _ nrl afi;refine⟨_,rfl,rl,ws,rfl, .inl (bE.of acU),_,_,rfl,rfl,(by lia),?_⟩;obtain⟨m,hm,hml⟩:∃m:Nat,W%((ws.length:Nat):Int)=((m:Nat):Int)/\m<ws.length:=⟨(W%((ws.length:Nat):Int)).toNat,by have :=Int.emod_nonneg W (show((ws.length:Nat):Int)≠0 by lia);lia,by have :=Int.emod_lt_of_pos W (show(0:Int)<((ws.length:Nat):Int)by lia);lia⟩;obtain⟨ro,hro⟩:∃r,rs[m]?=some r:=⟨_,dD (by lia)⟩;have x04:=x3.trans T;obtain⟨um,hum,S⟩:=(rws.fJ x04 (bG g.T.dq)).get (i:=m) (d:=qN inb ro) (by rw[jP,hro];rfl);refine⟨rl,ws,_,_,rfl,rfl,bE.of acU,by rw[hm];exact aL hum,?_⟩;refine⟨_,rfl,_,rfl,_,rfl,a,p,ns,i+1+1+1,9,rfl,Z.T,(by lia),(by decide),λz5 y z50 z51 U h5=>?_⟩;have L:=Z.next U h5 (by lia);have hw5:=U _ _ npw (T _ _ npw hw3);obtain⟨e,he,hel⟩:∃e:Nat,z5=((e:Nat):Int)/\e<9:=⟨z5.toNat,by lia,by lia⟩;subst he;obtain⟨F,hwd,hwl⟩:∃F:Str,lY[e]?=some (V.str F)/\F.length<=1000:=by
  have :e=0\/e=1\/e=2\/e=3\/e=4\/e=5\/e=6\/e=7\/e=8:=by lia
  rcases this with rfl|rfl|rfl|rfl|rfl|rfl|rfl|rfl|rfl<;>exact⟨_,rfl,by decide+kernel⟩
 refine⟨pw,lY,_,_,rfl,rfl,bE.of hw5,aL hwd,?_⟩;have G:=x04.trans U;have S:=Z.rep U S;have u:=rr.fJ G (bG g.T.dq);have l:=G _ _ O A9;have fin:∀(b:Addr)(R:List Lg)(o:List V)(H':Hp),y b=none->aQ y H'->H' b=some (.lst o)->bg H' (R.map oS) o->R.length<=rows.length+1->Q (.ref b) H':=λb R o H' v s' e' x l'=>q b R o H' (i+1+1+1+1) (λz=>by rw[z,L.T.dq]at v;cases v) e' x l' (G.trans s'.x) (L.mono s') (by lia) (by lia);refine⟨_,rfl,rfl,_,rfl,ba (λc0=>?_) (λc0=>?_)⟩
 ·show(C1 CU _ _:TE) _ y _;refine Lr.go (rows:=rows.take k++[(AQ ro.1,F)]++rows.drop k) (Lr.cat (Lr.cat (Lr.to (j:=2) rfl (λH Q h=>⟨_,rfl,h⟩) l u) (Lr.row (Ev.pr (Ev.ix (j:=7) (n:=0) rfl S (by rw[mJ];rfl)) (Ev.var (j:=8) rfl ⟨rfl,hwl⟩))) ?_) (Lr.frm (j:=2) rfl (λH Q h=>⟨_,rfl,h⟩) l u) ?_) ?_;·simp only[iu,bS,dg];lia
  ·simp only[dZ,iu,jf,bS,dg];lia
  ·intro b o H' v s' e' x;exact fin b _ o H' v s' e' x (by simp only[dZ,iu,jf,bS,dg];lia)
 refine⟨_,rfl,_,_,rfl,rfl,_,rfl,ba (λc1=>?_) (λc1=>?_)⟩;·exact lZ ⟨_,rfl,q lg rows us y (i+1+1+1+1) O l u (by lia) G L (by lia) (by lia)⟩
 refine⟨_,rfl,_,rfl,lg,us,rfl, .inl (bE.of l),rfl,_,rfl,ba (λc2=>⟨_,rfl,q lg rows us y (i+1+1+1+1) O l u (by lia) G L (by lia) (by lia)⟩) (λc2=>?_)⟩;have hku:k<us.length:=by have c2:V.int (k:Nat)≠V.int (us.length:Nat):=of_decide_eq_false (Bool.eq_false_iff.mpr c2);have :k≠us.length:=λz=>c2 (by rw[z]);lia
 obtain⟨B,hrk⟩:∃r,rows[k]?=some r:=⟨_,dD (by lia)⟩;obtain⟨uk,huk,C⟩:=u.get (i:=k) (d:=oS B) (by rw[jP,hrk];rfl);refine⟨_,rfl,_,rfl,lg,us,_,_,rfl,rfl,bE.of l,aL huk,?_⟩;refine⟨_,rfl,rfl,_,rfl,ba (λc3=>?_) (λc3=>?_)⟩;·show(C1 CU _ _:TE) _ y _;refine Lr.go (rows:=rows.take k++[(B.1,F)]++rows.drop (k+1)) (Lr.cat (Lr.cat (Lr.to (j:=2) rfl (λH Q h=>⟨_,rfl,h⟩) l u) (Lr.row (Ev.pr (Ev.ix (j:=9) (n:=0) rfl C rfl) (Ev.var (j:=8) rfl ⟨rfl,hwl⟩))) (by simp only[dZ,iu,jf,bS,dg];lia)) (Lr.frm (j:=2) rfl (λH Q h=>⟨_,rfl,_,_,rfl,rfl,h⟩) l u) (by simp only[dZ,iu,jf,bS,dg];lia)) λb o H' v s' e' x=>fin b _ o H' v s' e' x (by simp only[dZ,iu,jf,bS,dg];lia)
 refine⟨_,rfl,rfl,_,rfl,ba (λc4=>?_) (λc4=>?_)⟩;·show(C1 CU _ _:TE) _ y _;refine Lr.go (rows:=rows.take k++[(AQ ro.1,B.2)]++rows.drop (k+1)) (Lr.cat (Lr.cat (Lr.to (j:=2) rfl (λH Q h=>⟨_,rfl,h⟩) l u) (Lr.row (Ev.pr (Ev.ix (j:=7) (n:=0) rfl S (by rw[mJ];rfl)) (Ev.ix (j:=9) (n:=1) rfl C rfl))) (by simp only[dZ,iu,jf,bS,dg];lia)) (Lr.frm (j:=2) rfl (λH Q h=>⟨_,rfl,_,_,rfl,rfl,h⟩) l u) (by simp only[dZ,iu,jf,bS,dg];lia)) λb o H' v s' e' x=>fin b _ o H' v s' e' x (by simp only[dZ,iu,jf,bS,dg];lia)
 refine⟨_,rfl,rfl,_,rfl,ba (λc5=>?_) (λc5=>?_)⟩;·show(C1 CU _ _:TE) _ y _;refine Lr.go (rows:=rows.take k++[(B.1++[4+((k:Nat):Int)],B.2)]++rows.drop (k+1)) (Lr.cat (Lr.cat (Lr.to (j:=2) rfl (λH Q h=>⟨_,rfl,h⟩) l u) (Lr.row (Ev.pr (Ev.more (j:=9) rfl C (qP B (qO hrk)) (λH Q h=>⟨_,rfl,_,_,rfl,rfl,h⟩)) (Ev.ix (j:=9) (n:=1) rfl C rfl))) (by simp only[dZ,iu,jf,bS,dg];lia)) (Lr.frm (j:=2) rfl (λH Q h=>⟨_,rfl,_,_,rfl,rfl,h⟩) l u) (by simp only[dZ,iu,jf,bS,dg];lia)) λb o H' v s' e' x=>fin b _ o H' v s' e' x (by simp only[dZ,iu,jf,bS,dg];lia)
 refine⟨_,rfl,rfl,_,rfl,ba (λc6=>?_) (λc6=>?_)⟩;·show(C1 CU _ _:TE) _ y _;refine Lr.go (rows:=rows.take k++[B]++rows.drop k) (Lr.cat (Lr.cat (Lr.to (j:=2) rfl (λH Q h=>⟨_,rfl,h⟩) l u) (Lr.row (Ev.var (j:=9) rfl C)) (by simp only[dZ,iu,jf,bS,dg];lia)) (Lr.frm (j:=2) rfl (λH Q h=>⟨_,rfl,h⟩) l u) (by simp only[dZ,iu,jf,bS,dg];lia)) λb o H' v s' e' x=>fin b _ o H' v s' e' x (by simp only[dZ,iu,jf,bS,dg];lia)
 show abf (C1 CU (tSl (Ts K) (zw 2) uy (K5 (zw 4))) _) _ _ y;show(C1 CU _ _:TE) _ y _;exact Lr.go (rows:=rows.take k++rows.drop (k+1)) (Lr.cat (Lr.to (j:=2) rfl (λH Q h=>⟨_,rfl,h⟩) l u) (Lr.frm (j:=2) rfl (λH Q h=>⟨_,rfl,_,_,rfl,rfl,h⟩) l u) (by simp only[dZ,iu,jf,bS,dg];lia)) λb o H' v s' e' x=>fin b _ o H' v s' e' x (by simp only[dZ,iu,jf,bS,dg];lia)
def U2(T1 T2:Addr):Sp:=λvs H Q _=>∃(B:Str->D)(d:D)(v:V)(b lg:Addr)(aF:List (Key×V))(rows:List Lg)(us:List V),vs=[v, .ref lg, .ref b]/\H lg=some (.lst us)/\Fb H B d v b aF rows us T1 T2/\∀(u:V)(H':Hp),aQ H H'->Rep H' (wrD (pO (eE aF) B d rows)) u->Q u H'
theorem Je{H:Hp}{pl:List Int}{v:V}(h:Rep H (Sa pl) v):∃a,v= .ref a/\H a=some (.tup (pl.map V.int)):=by
 obtain⟨a,us,rfl,ha,rr⟩:=h;refine⟨a,rfl,?_⟩;rw[ha];have c:∀(l:List Int)(us:List V),bg H (l.map λi=>D.int i) us->us=l.map V.int:=λl=>by induction l with|nil=>intro us h;exact h|cons i l b=>rintro us⟨v,vs,rfl,h,t⟩;rw[b vs t];cases(show v=V.int i from h);rfl
 rw[c pl us rr]
theorem gH:aT ["_law_thing_here","_law_log_here","_law_book_here","_law_place","_law_rule_here","_law_here"] ["_law_thing_here","_law_log_here","_law_book_here"] (ar iJ):=⟨rfl,rfl,rfl,by decide+kernel,rfl,by decide+kernel,by decide+kernel⟩
theorem MK{T1 T2:Addr}(D:Df K mg "_law_due" iJ ["_law_thing_here","_law_log_here","_law_book_here"])(M:Mg mg t)(X:Ek K t)(gA:bx P w K mg bF "_law_rows" (2) ["_law_thing_here","_law_book_here"] BY)(iK:bx P w K mg (f9 P w) "stepped" (128) ["thing","place","book"] (CI t.cu T1 T2)):bx P w K mg bF "_law_due" (140) ["_law_thing_here","_law_log_here","_law_book_here"] (U2 T1 T2):=by
 refine D.ok gH (λvs H Q E h=>?_) (λbase f cZ A outer s H vs Q E hr h=>?_);·obtain⟨B,d,v,b,lg,aF,rows,us,rfl,_⟩:=h;rfl
 obtain⟨B,d,v,b,lg,aF,rows,us,rfl,A9,W,q⟩:=h;have nP:=X.e0;have hh:=hr.hd (by decide);have hu:=ql hr;refine⟨_,(ah (fk PassesOwn.never rfl (gm (pv 1)) (yn (n:=2) rfl (d4 (bJ (i:=3) gH.nd rfl (cq rfl)) (d4 (bJ (i:=4) gH.nd rfl (cq rfl)) m7))) (ah (BK (ix:=5) (N':=["_law_row","_law_place"]) (own:=1) (fr:=[3]) gH.nd rfl rfl rfl (j8 (N:=["_law_thing_here","_law_log_here","_law_book_here","_law_place","_law_rule_here","_law_here"]) (sc:=ar iJ) rfl rfl rfl (by decide+kernel)) (gm (aI gA hr.m rfl aM (ae (pv 0) (ae (pv 2) ag)))) (gU (by decide)) (λ_ _ _=>(bJ (i:=0) (show List.Nodup (["_law_row","_law_place"]:List Str)by decide+kernel) rfl (Or.inl rfl))) (λ_ _ _=>(A1 (aA (SQ (K:=K) hu) (aS (Hx (K:=K)) (pv 0) ai (λ_ _=>rfl)) (pv 1) (aR _)))) (λ_ _ _=>(pv 0))) (ah (bf (aA (Di hu) (pv 5) (bR ag) (aR _)) (ak (aw (aE (ae aq (ae aq ag))))) aK) (ah (bf (L2.PW.pt (lF (aA RL (aS aU (aS bK (pv 5) ai (λ_ _=>rfl)) ai (λ_ _=>rfl)) lW (aR _)) (i9 (aA Qt (aS aU (aS bK (pv 5) ai (λ_ _=>rfl)) ai (λ_ _=>rfl)) (pv 4) (aR _))))) (ak (aw (aE (ae aq (ae aq ag))))) aK) (ak (Hk rfl rfl rfl (P4 (i:=0) gH.nd rfl (cq rfl) iK hr.m rfl rfl (ae (pv 0) (ae (pv 3) (ae (pv 2) ag)))) (HM false nP M.g_Great rfl (λz=>nomatch z) (λa C oe C2=>(ak (aw (aE (ae aq (ae aq ag)))))) Gu))))))) (ak (aw (aE (ae aq (ae (pv 0) ag)))))),?_⟩;try dsimp only[gV,cP]
 refine qM ?_;intro _ _;have Yl:=W.rr.length;rw[cV]at Yl;have ref:∀(x:Str),x.length<=1000->wrD (pO (eE aF) B d rows)=NM x->∀(I:Hp),aQ H I->2<=sizeLine/\∀p,I p=none->Q (.ref p) (upd I p (.tup [V.str "refused", .str x])):=λx o e I s1=>⟨by decide,λp O=>by rw[e]at q;exact q _ _ (s1.trans (ao O _)) (dQ O (A4 gY (A4 ⟨rfl,o⟩ r0)))⟩;refine⟨_,rfl,lg,rfl,⟨_,bE.of A9⟩,?_⟩;refine Ih (DO A9) (λj bj H'=>∃(g:KM.D)(u:V)(o3 o4 o5:Option V),bj=[some u,some (.ref lg),some (.ref b),o3,o4,o5]/\aQ H H'/\Rep H' g u/\Td g/\pO (eE aF) B d rows=pO (eE aF) B g (rows.drop j)) ⟨d,v,none,none,none,rfl,aQ.refl _,W.rd,W.td,rfl⟩ (λi bj H' h=>h.elim λ_ h=>h.elim λ_ h=>h.elim λ_ h=>h.elim λ_ h=>h.elim λ_ h=>h.2.1) ?_ ?_
 ·rintro j bj I x o⟨g,u,o3,o4,o5,rfl,s1,r1,G,k⟩;have hj:j<us.length:=(List.getElem?_eq_some_iff.mp o).1;obtain⟨r,X8⟩:∃r,rows[j]?=some r:=⟨_,dD (by lia)⟩;obtain⟨x',Yk,rx⟩:=W.rr.get (show(rows.map oS)[j]?=some (oS r)by rw[jP,X8];rfl);rw[o]at Yk;cases Yk;obtain⟨row,_,rfl,GK,⟨pw,_,rfl,rp,⟨_,_,rfl,⟨rfl,ZT⟩,U⟩⟩⟩:=id rx;cases(show _=[]from U);have edr:rows.drop j=r::rows.drop (j+1):=by rw[List.drop_eq_getElem_cons (by lia)];rw[dD (by lia)]at X8;rw[Option.some.inj X8]
  rw[edr]at k;have W1:=W.mono s1;have tkn:=G.kn;have tdp:=G.dp;have rp1:=rp.mono s1;obtain⟨pa,rfl,Sk⟩:=Je rp1;refine⟨row,_,rfl,bU.of (s1 _ _ GK),rfl,_,_,rfl,_,_,rfl,rfl,?_⟩;refine⟨_,rfl,_,rfl,g,u,b,aF,rfl,r1,G.wf,by lia,by lia,W1.hb,λf fs H3 hf0 s3 hf rf=>⟨f,rfl,⟨fs,bE.of hf⟩,λpc hpc=>?_⟩⟩;have lf:=rf.length;rw[cV]at lf;have R1:=kJ [] g;refine Ai (bW [] g).length (λi=>((bW [] g)[i]?).bind λz=>if decide (AQ z.1=r.1)=true then some (qN (eE aF) z)else none) hpc (by rw[sizeLine_eq];lia) (λi H4 hi F=>⟨?_,?_⟩) λvs H4 F h4 S=>⟨?_,?_⟩;·obtain⟨y,hy⟩:∃y,fs[i]?=some y:=⟨_,dD (by lia)⟩;exact⟨_,y,bE.of (F _ _ hf),hy⟩
  ·rintro x Y⟨rfl,hy⟩R R0 hR Yu;obtain⟨r',Fw⟩:∃r,(bW [] g)[i]?=some r:=⟨_,dD hi⟩;obtain⟨y,hy',ry⟩:=rf.get (i:=i) (d:=qN (eE aF) r') (by rw[jP,Fw];rfl);have o:=hy fs (bE.of (F _ _ hf));rw[hy']at o;cases o;have ry:=ry.mono F;obtain⟨qa,_,rfl,Z,⟨v1,_,rfl,r1',⟨v2,_,rfl,r2',⟨v3,_,rfl,J,U⟩⟩⟩⟩:=id ry;cases(show _=[]from U);simp only[Fw,Option.bind_some]at hR Yu;rw[<-mJ]at r1';obtain⟨qb,rfl,hqb⟩:=Je r1';refine⟨_,rfl,qa,_,_,_,rfl,rfl,bU.of Z,aL (j:=0) rfl,_,rfl,qb,pa,_,_,rfl,rfl,bU.of hqb,bU.of (F _ _ (s3 _ _ Sk)),_,rfl,ba (λc=>⟨_,rfl,hR _ _ _ (if_pos c) (aQ.refl _) ry⟩) (λc=>Yu _ (if_neg c) (aQ.refl _))⟩
  ·exact⟨_,bE.of (F _ _ hf),by lia⟩
  rw[yS,kL]at S;have S:bg H4 ((Ux r.1 g).map (qN (eE aF))) vs:=S;have l4:=S.length;rw[cV]at l4;have As:=s3.trans F;refine⟨_,rfl,(c7 rfl),λpe hpe=>?_⟩;have t5:=ao hpe (.lst []);have h5:=t5 _ _ h4;refine⟨pc,pe,vs,rfl,rfl,bE.of h5,bE.of aj,_,rfl,?_⟩;have R4:=As.trans t5;have T:=S.mono t5;generalize upd H4 pe (.lst [])=Y at t5 h5 R4 T⊢;have L:=s1.trans R4;cases l:goto g r.1 with
   |none=>
    have e0:vs=[]:=by rw[O0 l]at T;exact T
    refine ba (λ_=>?_) (λc=>absurd (decide_eq_true e0) c);exact ref "place" (by decide+kernel) (by rw[k,BN l];rfl) Y L
   |some e=>
    obtain⟨ra,rest,ea,e2⟩:=Ow G.wf l;rw[ea]at T;obtain⟨va,vs',rfl,r6,_⟩:=T;refine ba (λc=>absurd (of_decide_eq_true c) (by simp)) (λ_=>?_);obtain⟨qa,_,rfl,Z,⟨v1,_,rfl,_,⟨v2,_,rfl,_,⟨v3,_,rfl,J,U⟩⟩⟩⟩:=id r6;cases(show _=[]from U);rw[e2]at J;obtain⟨we,_⟩:=jA _ _ _ G.wf l;refine⟨_,rfl,pc,_,_,_,rfl,rfl,bE.of h5,aL (j:=0) rfl,qa,_,_,v3,rfl,rfl,bU.of Z,aL (j:=2) rfl,rfl,_,rfl,?_⟩;rcases i_ (inb:=eE aF) we with m|⟨y,m⟩;·rw[m]at J;cases(show v3=V.a_ from J);refine ba (λ_=>lZ ?_) (λc=>absurd rfl c);exact ref "step" (by decide+kernel) (by rw[k,Dx l (by rw[m];simp)];rfl) Y L
    rw[m]at J;cases(show v3=V.str y from J.1);refine ba (λc=>absurd c (by simp)) (λ_=>?_);refine⟨_,rfl,pc,_,_,_,rfl,rfl,bE.of h5,aL (j:=0) rfl,qa,_,_,_,rfl,rfl,bU.of Z,aL (j:=2) rfl,_,rfl,rfl,_,rfl,ba (λc=>?_) (λc=>?_)⟩;·exact ref "step" (by decide+kernel) (by rw[k,Dx l (by rw[m];intro z;rw[z]at c;simp at c)];rfl) Y L
    have er:y=r.2:=by
     by_cases z:y=r.2;·exact z
     ·exact absurd (by simp[z]) c
    subst er;have W5:=W.mono L;obtain⟨ok,nx⟩:=stC W.bb G l m;refine⟨_,rfl,_,rfl,_,rfl,B,g,_,u, .ref pa,r.1,b,aF,r.2,_,rfl,r1.mono R4,rp1.mono R4,W5.hb,W5.br,ok,W5.tb,λz' H9 s9 R9 r9=>?_,λH9 s9 hgt=>⟨_,rfl,λa1 UC=>⟨true,X.x0,lZ ?_⟩⟩⟩;·exact⟨LA B g r.1 e r.2,z',_,_,_,rfl,L.trans s9,r9,nx R9,k.trans (Rl l m R9)⟩
    ·exact ref "great" (by decide+kernel) (by rw[k,O9 l m hgt];rfl) H9 (L.trans s9)
 ·rintro bj I⟨g,u,o3,o4,o5,rfl,s1,r1,G,k⟩;rw[List.drop_eq_nil_of_le (by lia)]at k;have k:pO (eE aF) B d rows= .th g:=k;rw[k]at q;exact⟨_,rfl,(c7 rfl),λp O=>q _ _ (s1.trans (ao O _)) (dQ O (A4 gY (A4 r1 r0)))⟩
theorem DP:∀{aF:List (Key×V)}{k:Key}{v:V},fh aF k=some v->(k,v)∈aF
 |[],k,v,h=>by simp[fh]at h
 |(a,b)::aF,k,v,h=>by
  by_cases e:a=k;·subst e;rw[fV rfl]at h;cases h;exact eD
  ·rw[fO e]at h;exact eA _ (DP h)
theorem Ei{H:Hp}{aF:List (Key×V)}(h:Bk H aF):∃B,RP H aF B/\BkB (eE aF) B:=by
 have b:∀y:Str,∃d:D,eE aF y=true->(∃(q:Addr)(i e:V),fh aF (Sum.inr y:Key)=some (.ref q)/\H q=some (.tup [i,e])/\Rep H d e)/\bu ay false d=true/\depth d<=16:=λy=>by
  by_cases a:eE aF y=true;·obtain⟨v,c⟩:=Option.isSome_iff_exists.mp (show(fh aF (Sum.inr y:Key)).isSome=true from a);obtain⟨q,m,g,k,l,rfl,hq,_,_,j,w2,_,f,_⟩:=h.each _ _ (DP c);exact⟨g,λ_=>⟨⟨q,k,l,c,hq,j⟩,w2,f⟩⟩
  ·exact⟨.a_,λz=>absurd z a⟩
 refine⟨λy=>(b y).choose,λy a=>((b y).choose_spec a).1,λy a=>((b y).choose_spec a).2⟩
noncomputable def dH:Str:="abcdefghijklmnopqrstuvwxyz"
theorem Am{n:Nat}(h:n<26):∃c,lX dH.cps.toList ((n:Nat):Int)=some c:=by
 have e:dH.cps.toList.length=26:=by decide+kernel
 exact⟨_,aL (dD (by lia))⟩
theorem len_one(c:Nat):(⟨#[c]⟩:Str).length=1:=rfl
theorem len_cat(a b:Str):(a++b).length=a.length+b.length:=by show(a.cps++b.cps).size=_;rw[Array.size_append];rfl
theorem md{n:Nat}(h:n<676):∃c1 c2,lX dH.cps.toList (((n:Nat):Int)/26)=some c1/\lX dH.cps.toList (((n:Nat):Int)%26)=some c2:=by obtain⟨c1,e1⟩:=Am (n:=n/26) (by lia);obtain⟨c2,e2⟩:=Am (n:=n%26) (by lia);exact⟨c1,c2,e1,e2⟩
noncomputable def qw(c1 c2:Nat):Str:=Str.ofString "q"++⟨#[c1]⟩++⟨#[c2]⟩
theorem GB(c1 c2:Nat):(qw c1 c2).length<=1000:=by unfold qw;rw[len_cat,len_cat,len_one,len_one];decide+kernel
theorem Qe(c1:Nat):(Str.ofString "q").length+(⟨#[c1]⟩:Str).length<=sizeLine:=by rw[len_one];decide+kernel
theorem Om(c1 c2:Nat):(Str.ofString "q"++(⟨#[c1]⟩:Str)).length+(⟨#[c2]⟩:Str).length<=sizeLine:=by rw[len_cat,len_one,len_one];decide+kernel
theorem oO:dH.length<=sizeLine:=by decide+kernel
theorem cdq(n:Int):ac2 n 26:=⟨by decide,by decide⟩
def Ku:Sp:=λvs H Q _=>∃(m:Nat)(b:Addr)(aF:List (Key×V)),vs=[.int (m:Nat), .ref b]/\m<=600/\H b=some (.dK aF)/\Bk H aF/\aF.length<=3/\∀(a:List (Key×V))(x:Str)(H':Hp),H' b=some (.dK a)->Bk H' a->a.length<=m+3->bD b H H'->x.length<=1000->Q (.str x) H'
theorem e_:aT ["_law_many","_law_book_here","_law_letters","_law_k","_law_after","_law_word_here"] ["_law_many","_law_book_here"] (ar ik):=⟨rfl,rfl,rfl,by decide+kernel,rfl,by decide+kernel,by decide+kernel⟩
theorem DQ(D:Df K mg "_law_chain" ik ["_law_many","_law_book_here"])(M:Mg mg t):bx P w K mg bF "_law_chain" (1) ["_law_many","_law_book_here"] Ku:=by
 refine D.ok e_ (λvs H Q E h=>?_) (λbase f cZ A outer s H vs Q E Y h=>?_);·obtain⟨m,b,aF,rfl,_⟩:=h;rfl
 obtain⟨m,b,aF,rfl,hm,hb,S,hl,q⟩:=h;have Z:=ql Y;refine⟨_,(ah (aH (i:=2) e_.nd rfl (cq rfl) aq) (ah (fk PassesOwn.never rfl (eR rfl M.ia (ae (pv 0) ag)) (bJ (i:=3) e_.nd rfl (cq rfl)) (ah (aH (i:=4) e_.nd rfl (cq rfl) (aJ bT (pv 3) ai)) (ah (aH (i:=5) e_.nd rfl (cq rfl) (aJ cL (aJ cL aq (aS jk (pv 2) (aJ uu (pv 3) ai) (λ_ _=>rfl))) (aS jk (pv 2) (aJ e9 (pv 3) ai) (λ_ _=>rfl)))) (ak (AW Z (pv 1) (pv 5) (aE (ae (aE (ae aq ag)) (ae (aE (ae aq (ae (aJ cL (aJ cL aq (aS jk (pv 2) (aJ uu (pv 4) ai) (λ_ _=>rfl))) (aS jk (pv 2) (aJ e9 (pv 4) ai) (λ_ _=>rfl))) ag))) ag))) rfl))))) (ak (aw (aJ cL (aJ cL aq (aS jk (pv 2) (aJ uu (pv 0) ai) (λ_ _=>rfl))) (aS jk (pv 2) (aJ e9 (pv 0) ai) (λ_ _=>rfl))))))),?_⟩;try dsimp only[gV,cP]
 refine zu ?_;intro _ _ _;refine⟨_,rfl,_,rfl,(by show-(2^62)<=((m:Nat):Int);lia),(by show((m:Nat):Int)<2^62;lia),?_⟩;let O:Nat->L2.St->Hp->Prop:=(λk F H'=>∃(d:List (Key×V))(v x y:Option V),F=[some (.int (m:Nat)),some (.ref b),some (.str dH),v,x,y]/\H' b=some (.dK d)/\d.length<=k+3/\Bk H' d/\bD b H H');refine iw (((m:Nat):Int)-0).toNat O ?_ ?_ ?_;·exact⟨aF,none,none,none,rfl,hb,by lia,S,λ_ _ _ h=>h⟩
 ·rintro k F G T⟨d,v,x,y,rfl,h1,l1,o,B⟩;refine⟨T,?_⟩;rintro x' p⟨rfl,rfl⟩;have e0:(0:Int)+(k:Int)=((k:Nat):Int):=by lia
  rw[e0];refine⟨_,rfl,_,_,rfl,rfl,?_⟩;obtain⟨c1,c2,e1,e2⟩:=md (n:=k) (by lia);obtain⟨e,g,f1,f2⟩:=md (n:=k+1) (by lia);refine⟨_,rfl,_,rfl,_,_,rfl,rfl,cdq _,dH,_,c1,rfl,rfl,oO,e1,_,_,rfl,rfl,Qe _,_,rfl,_,rfl,_,_,rfl,rfl,(show(0:Int)<26 by decide),dH,_,c2,rfl,rfl,oO,e2,_,_,rfl,rfl,Om _ _,?_⟩;have hx:(qw c1 c2).length<=1000:=GB _ _;have hy:(qw e g).length<=1000:=GB _ _;refine⟨(c7 rfl),λa U=>?_⟩;have t1:=ao U (.tup [V.str "nat"]);refine⟨_,rfl,_,rfl,_,_,rfl,rfl,cdq _,dH,_,e,rfl,rfl,oO,f1,_,_,rfl,rfl,Qe _,_,rfl,_,rfl,_,_,rfl,rfl,(show(0:Int)<26 by decide),dH,_,g,rfl,rfl,oO,f2,_,_,rfl,rfl,Om _ _,(c7 rfl),λc W=>⟨(c7 rfl),λj X=>?_⟩⟩;have t2:=ao W (.tup [V.str "name", .str (Str.ofString "q"++(⟨#[e]⟩:Str)++(⟨#[g]⟩:Str))]);have z:=ao X (.tup [V.ref a, .ref c]);have I:=z _ _ (t2 _ _ (show(upd p a (.tup [V.str "nat"])) a=some (.tup [V.str "nat"])from aj));have J:=z _ _ (show(upd (upd p a (.tup [V.str "nat"])) c (.tup [V.str "name", .str (Str.ofString "q"++(⟨#[e]⟩:Str)++(⟨#[g]⟩:Str))])) c=some (.tup [V.str "name", .str (Str.ofString "q"++(⟨#[e]⟩:Str)++(⟨#[g]⟩:Str))])from aj);have L:(upd (upd (upd p a (.tup [V.str "nat"])) c (.tup [V.str "name", .str (Str.ofString "q"++(⟨#[e]⟩:Str)++(⟨#[g]⟩:Str))])) j (.tup [V.ref a, .ref c])) j=some (.tup [V.ref a, .ref c]):=aj;have r:=t1.trans (t2.trans z);generalize upd (upd (upd p a (.tup [V.str "nat"])) c (.tup [V.str "name", .str (Str.ofString "q"++(⟨#[e]⟩:Str)++(⟨#[g]⟩:Str))])) j (.tup [V.ref a, .ref c])=l at I J L r⊢;have h4:=r _ _ h1;refine⟨_,rfl,_,rfl,b,_,rfl,Gy.k (k:=Sum.inr (qw c1 c2)) h4 (by have :d.length<=1000:=o.len;exact Nat.lt_of_le_of_lt this (by decide)),?_⟩;have C:bD b l (upd l b (.dK (putK d (Sum.inr (qw c1 c2)) (.ref j)))):=bD.upd _;have rk:Rep l (.tup [.str "nat"]) (.ref a):=⟨a,_,rfl,I,A4 gY r0⟩;have rt':Rep l (.tup [.str "name", .str (qw e g)]) (.ref c):=⟨c,_,rfl,J,A4 gY (A4 ⟨rfl,hy⟩ r0)⟩;have R:R6 l (.ref j):=⟨j,_,_,_,_,rfl,L,rk,Cb,rt',BR rfl,by simp only[depth,aN];lia,by simp only[depth,aN];lia,by simp only[aG,aO];lia,by simp only[aG,aO];lia⟩;have N:=o.mono r;refine⟨putK d (Sum.inr (qw c1 c2)) (.ref j),_,_,_,rfl,aj,dJ mG (by lia),⟨dJ mG (by lia),λk' v' u=>?_⟩,B.trans (r.x.trans C)⟩;rcases AH u with u|rfl;·exact(N.each k' v' u).sx C (d8 h4)
  ·exact R.sx C (d8 h4)
 ·rintro F G⟨d,v,x,y,rfl,h1,l1,o,B⟩;refine⟨bN _,?_⟩;obtain⟨c1,c2,e1,e2⟩:=md (n:=m) (by lia);refine⟨_,rfl,_,rfl,_,_,rfl,rfl,cdq _,dH,_,c1,rfl,rfl,oO,e1,_,_,rfl,rfl,Qe _,_,rfl,_,rfl,_,_,rfl,rfl,(show(0:Int)<26 by decide),dH,_,c2,rfl,rfl,oO,e2,_,_,rfl,rfl,Om _ _,?_⟩;exact q d _ G h1 o (by lia) B (GB c1 c2)
end K24
end
section
namespace L3
open PySem PySem.Spec PyProof.Rows L2
noncomputable abbrev aeS(h:Heap)(z TI TO:Addr)(a f1:Value):Prop:=h.get? z=some {cls:= .type "zip",dict:=none,data:= .fields #[a,f1, .bool false, .ref TI, .ref TO],slots:=#[]}
def ZG(h:Heap)(z TI TO:Addr):Prop:=∃b f1,aeS h z TI TO b f1/\(b= .none\/∃a t,b= .int a t)
section
variable{prog:Program}{w:World}{A:Around}{E:Value->Shared->Prop}{s:Shared}
variable{z TI TO i1 i2:Addr}{f1 f2:List Addr}{n1 n2:Nat}{P1 P2:Nat->Value->Prop}{S1 S2:Nat->Heap->Prop}
end
structure afj(a b e z TI TO i1 i2:Addr)(i:Nat)(h:Heap):Prop where
 e:∃old,IsEnum h e z i old
 z:ZG h z TI TO
 TI:IsPair h TI (.ref i1) (.ref i2)
 TO:∃u v,IsPair h TO u v
 i1:h.IsListIter i1 a i
 i2:h.IsListIter i2 b i
end L3
end
section
namespace L3
theorem aaj{k:Nat}{A:PySem.Around}(r:L2.da k A):A.units+84<PySem.cLine:=by have :=r.un;lia
end L3
end
section
namespace K24
open PySem L2 L3 KM PyProof.Rows
seal L2.PE L2.PS L2.iO L2.PT L2.PW L2.PA L2.PG L2.Bu L2.PI L2.PC L2.PO L2.AY L2.PK L3.A8 L3.PH L3.PB
variable{P:Program}{w:World}{K:PySem.W.Frag}{mg:Str->Option Value}{base:Heap}{t:xV}
def IT(K:PySem.W.Frag)(T1 T2:Addr):Sp:=λvs H Q _=>∃(a:Addr)(ns:List Int),vs=[.ref a]/\bE K H a (ns.map V.int)/\ns.length<=63/\JZ H T1 T2/\∀H',Q (.bl true) H'
theorem N2{H:Hp}{a p:Addr}{ns:List Int}(c:bE K H a (ns.map V.int))(hl:ns.length<=63)(b:H p=none):Tp K a p ns (upd H p (.lst [V.int 0])) 0:=by
 refine⟨?_,hl,aj,Int.le_refl _⟩;rcases c with(h|⟨o,h⟩)|h;·have n:a≠p:=aZ h b;exact .inl ⟨n, .inl (by rw[aY n];exact h)⟩
 ·have n:a≠p:=aZ h b;exact .inl ⟨n, .inr ⟨o,by rw[aY n];exact h⟩⟩
 ·exact .inr λH'=> .inr h
mutual theorem QZ:∀{k:Bool}{d:D},bu ay k d=true->Ng d=true|k, .tup (.str x::ps),h=>by obtain⟨s,e1,e2,e3,e4,e5,_⟩:=bO h;show(true&&Ul ps)=true;rw[RJ e3];rfl|k, .tup [],h=>by simp[bu]at h|k, .tup (.a_::_),h=>by simp[bu]at h|k, .tup (.bl _::_),h=>by simp[bu]at h|k, .tup (.int _::_),h=>by simp[bu]at h|k, .tup (.tup _::_),h=>by simp[bu]at h|k, .a_,h=>by simp[bu]at h|k, .bl _,h=>by simp[bu]at h|k, .int _,h=>by simp[bu]at h|k, .str _,h=>by simp[bu]at h theorem RJ:∀{cs:List Nat}{ps:List D},eh ay cs ps=true->Ul ps=true
 |[],[],_=>rfl
 |[],_::_,h=>by simp[eh]at h
 |_::_,[],h=>by simp[eh]at h
 |c::cs,p::ps,h=>by
  rw[aP,cW]at h;show(Ng p&&Ul ps)=true;rw[RJ h.2,Bool.and_true];have h:=h.1;unfold dv at h;by_cases c1:c=107;·rw[if_pos c1]at h;exact QZ h
  ·rw[if_neg c1]at h;by_cases c2:c=116;·rw[if_pos c2]at h;exact QZ h
   ·rw[if_neg c2]at h;cases p<;>first|rfl|(simp[iD,ay]at h;done)end
theorem sC{H:Hp}{e f:V}{Q:VK}{z:Bool}(r:Wr)(td:∀d,r= .th d->Td d)(h1:Rep H (wrD r) e)(h2:Rep H (wrD r) f)(q:Q (.bl z) H):AO z e f H Q:=by
 have two:∀b c:D,Ng b=true->Ng c=true->depth b<=40->depth c<=40->Rep H (.tup [b,c]) e->Rep H (.tup [b,c]) f->AO z e f H Q:=λb c h i e1 e2 j l=>by
  refine⟨[.d b, .d c],?_,?_,?_,?_,q⟩;·obtain⟨a,_,rfl,ha,⟨v1,_,rfl,s1,⟨v2,_,rfl,s2,g⟩⟩⟩:=j;cases(show _=[]from g);exact⟨a,_,rfl,ha,⟨v1,_,rfl,s1,⟨v2,_,rfl,s2,rfl⟩⟩⟩
  ·obtain⟨a,_,rfl,ha,⟨v1,_,rfl,s1,⟨v2,_,rfl,s2,g⟩⟩⟩:=l;cases(show _=[]from g);exact⟨a,_,rfl,ha,⟨v1,_,rfl,s1,⟨v2,_,rfl,s2,rfl⟩⟩⟩
  ·show(Ng b&&(Ng c&&true))=true;rw[h,i];rfl
  ·simp only[mh,WK];lia
 cases r with|th d=>obtain⟨⟨k,wf⟩,dp,_⟩:=td d rfl;exact two (.str "thing") d rfl (QZ wf) (by simp[depth]) dp h1 h2|pl=>exact two (.str "refused") (.str "place") rfl rfl (by simp[depth]) (by simp[depth]) h1 h2|st=>exact two (.str "refused") (.str "step") rfl rfl (by simp[depth]) (by simp[depth]) h1 h2|gr=>exact two (.str "refused") (.str "great") rfl rfl (by simp[depth]) (by simp[depth]) h1 h2
theorem Sg.sxb{a p c b:Addr}{ns:List Int}{H H':Hp}{i:Int}{aF:List (Key×V)}(g:Sg K a p c ns H i)(hb:H b=some (.dK aF))(s:bD b H H'):Sg K a p c ns H' i:=by
 have k:p≠b:=λz=>by have :=g.T.dq;rw[z,hb]at this;cases this
 obtain⟨⟨src,ln,tp,i0⟩,x,y,z,d,f,j,hc⟩:=g;refine⟨⟨?_,ln,s _ _ k tp,i0⟩,x,y,z,d,f,j,s _ _ (λe=>by rw[e,hb]at hc;cases hc) hc⟩;rcases src with⟨n,h|⟨o,h⟩⟩|h;·exact .inl ⟨n, .inl (s _ _ (λe=>by rw[e,hb]at h;cases h) h)⟩
 ·exact .inl ⟨n, .inr ⟨o,s _ _ (λe=>by rw[e,hb]at h;cases h) h⟩⟩
 ·exact .inr h
theorem JZ.sxb{H H':Hp}{b T1 T2:Addr}{aF:List (Key×V)}(h:JZ H T1 T2)(s:bD b H H')(hb:H b=some (.dK aF)):JZ H' T1 T2:=⟨s _ _ (λz=>by have e:H T1=_:=h.t1;rw[z,hb]at e;cases e) h.t1,s _ _ (λz=>by have e:H T2=_:=h.t2;rw[z,hb]at e;cases e) h.t2⟩
theorem C7{H:Hp}{r:Lg}{u:V}(h:Rep H (oS r) u):∀n:Nat,bg H ((jQ n r).map oS) (jQ n [u]).flatten|0=>rfl|n+1=>⟨u,_,rfl,h,C7 h n⟩
theorem JC{H:Hp}:∀{rows:List Lg}{us:List V},bg H (rows.map oS) us->∀z∈us,∃a,z=V.ref a
 |[],us,h,z,b=>by cases(show us=[]from h);cases b
 |r::rows,_,⟨v,vs,e,h,t⟩,z,b=>by
  subst e;rcases List.mem_cons.mp b with rfl|b;·obtain⟨a,_,e,_⟩:=h;exact⟨a,e⟩
  ·exact JC t z b
structure Go(K:PySem.W.Frag)(a p c b lg T1 T2:Addr)(ns:List Int)(H:Hp)(B:Str->D)(aF:List (Key×V))(d:D)(v:V)(rows:List Lg)(us:List V)(i:Int):Prop where
 rd:Rep H d v
 td:Td d
 hl:H lg=some (.lst us)
 rr:bg H (rows.map oS) us
 ln:rows.length<=140
 pl:∀r∈rows,r.1.length<=1000
 np:lg≠p
 bs:Bs H B b aF T1 T2
 bk:Bk H aF
 g:Sg K a p c ns H i
 hi:i<2^45
theorem eL:aT ["_law_script","_law_tape","_law_pool_here","_law_book_here","_law_thing_here","_law_log_here","_law_many","_law_due_here","_law_handed","_law_found","_law_short"] ["_law_script"] (ar Hy):=⟨rfl,rfl,rfl,by decide+kernel,rfl,by decide+kernel,by decide+kernel⟩
theorem acD{f T1 T2:Addr}{fd:FuncData}(F:Wm K "law" "law" Hy f fd)(M:Mg mg t)(aC:bx P w K mg bF "_law_draw" (1) Bi (d_ K))(FD:bx P w K mg bF "_law_pool" (2) ["_law_script","_law_tape"] (Oe K))(G2:bx P w K mg bF "_law_book" (154) ["_law_script","_law_tape","_law_pool_here"] (PU K))(DW:bx P w K mg bF "_law_thing" (154) eQ (JK K))(EG:bx P w K mg bF "_law_under" (174) ["_law_script","_law_tape","_law_thing_here"] (Ln K))(MP:bx P w K mg bF "_law_log" (140) ["_law_script","_law_tape","_law_thing_here","_law_book_here"] (VN K T1 T2))(EW:bx P w K mg bF "_law_chain" (1) ["_law_many","_law_book_here"] Ku)(gA:bx P w K mg bF "_law_rows" (2) ["_law_thing_here","_law_book_here"] BY)(AI:bx P w K mg bF "_law_spoilt" (2) ["_law_script","_law_tape","_law_log_here","_law_rows_here"] (Ea K))(Aw:bx P w K mg bF "_law_due" (140) ["_law_thing_here","_law_log_here","_law_book_here"] (U2 T1 T2))(jG:bx P w K mg bF "_law_told" (140) ["_law_thing_here","_law_log_here","_law_book_here"] (ON T1 T2)):oD P w K mg base bF 193 f fd ["_law_script"] (IT K T1 T2):=by
 refine F.ok eL (λvs H Q E h=>?_) (λcZ A outer s H vs Q E j h=>?_);·obtain⟨a,ns,rfl,_⟩:=h;rfl
 obtain⟨a,ns,rfl,hS,hlen,hT,q⟩:=h;have hu:=ql j;have h84:=aaj j;refine⟨_,(ah (aH (i:=1) eL.nd rfl (cq rfl) (bR (ae ai ag))) (ah (aH (i:=2) eL.nd rfl (cq rfl) (aI FD j.m rfl aM (ae (pv 0) (ae (pv 1) ag)))) (ah (aH (i:=3) eL.nd rfl (cq rfl) (aI G2 j.m rfl aM (ae (pv 0) (ae (pv 1) (ae (pv 2) ag))))) (ah (aH (i:=4) eL.nd rfl (cq rfl) (aI DW j.m rfl aM (ae (pv 0) (ae (pv 1) (ae (aJ bT ai (aI aC j.m rfl aM (ae (pv 0) (ae (pv 1) (ae ai ag))))) (ae (aS bK (bR (ae ai (ae ai (ae ai ag)))) (aI aC j.m rfl aM (ae (pv 0) (ae (pv 1) (ae ai ag)))) (λ_ _=>rfl)) (ae (pv 2) ag))))))) (ah (aH (i:=4) eL.nd rfl (cq rfl) (aI EG j.m rfl aM (ae (pv 0) (ae (pv 1) (ae (pv 4) ag))))) (ah (aH (i:=5) eL.nd rfl (cq rfl) (aI MP j.m rfl aM (ae (pv 0) (ae (pv 1) (ae (pv 4) (ae (pv 3) ag)))))) (uh (bf (aA bQ (aI aC j.m rfl aM (ae (pv 0) (ae (pv 1) (ae ai ag)))) ai (aR _)) (ah (aH (i:=6) eL.nd rfl (cq rfl) (aI aC j.m rfl aM (ae (pv 0) (ae (pv 1) (ae ai ag))))) (ah (AW hu (pv 3) (aI EW j.m rfl aM (ae (pv 6) (ae (pv 3) ag))) (aE (ae (aE (ae aq ag)) (ae (aE (ae aq ag)) ag))) rfl) (ah (aH (i:=4) eL.nd rfl (cq rfl) (aE (ae aq (ae aq ag)))) (ak (aH (i:=5) eL.nd rfl (cq rfl) (aJ Yj (bR (ae (aE (ae (aE ag) (ae aq ag))) ag)) (aJ bT (pv 6) ai))))))) aK) (ah (aH (i:=5) eL.nd rfl (cq rfl) (aI AI j.m rfl aM (ae (pv 0) (ae (pv 1) (ae (pv 5) (ae (aI gA j.m rfl aM (ae (pv 4) (ae (pv 3) ag))) ag)))))) (ah (aH (i:=7) eL.nd rfl (cq rfl) (aI Aw j.m rfl aM (ae (pv 4) (ae (pv 5) (ae (pv 3) ag))))) (ah (aH (i:=8) eL.nd rfl (cq rfl) (fC jj rfl M.Gw Cs (ae (pv 5) ag))) (ah (aH (i:=9) eL.nd rfl (cq rfl) (aI jG j.m rfl aM (ae (pv 4) (ae (pv 8) (ae (fC Hg rfl M.Z7 Ti (ae (pv 3) ag)) ag))))) (ah (bf (L2.PW.pt (lF (aA (GO h84) (pv 9) (pv 7) (aR _)) (i9 (aA (M9 hu) (pv 8) (pv 5) (aR _))))) (ak (aw Az)) aK) (ah (bf (aA (GO h84) (aI jG j.m rfl aM (ae (pv 4) (ae (fC lK rfl M.Cq xI (ae (pv 5) ag)) (ae (pv 3) ag)))) (pv 7) (aR _)) (ak (aw Az)) aK) (ah (aH (i:=10) eL.nd rfl (cq rfl) (cg dP (pv 5) bI (bZ ai))) (ah (bf (aA (GO h84) (aI jG j.m rfl aM (ae (pv 4) (ae (pv 10) (ae (pv 3) ag)))) (aI Aw j.m rfl aM (ae (pv 4) (ae (pv 10) (ae (pv 3) ag)))) (aR _)) (ak (aw Az)) aK) (ak (aw (nF (Zt h84) (aI jG j.m rfl aM (ae (pv 4) (ae (pv 8) (ae (pv 3) ag)))) (pv 7) (aR _))))))))))))))))))),?_⟩;try dsimp only[gV,cP]
 refine abG ?_;intro _ _ _ _ _ _ _;refine⟨(c7 rfl),λp hp=>?_⟩;have T0:=N2 hS hlen hp;have hT0:=hT.mono (ao hp (.lst [V.int 0]));generalize upd H p (.lst [V.int 0])=H0 at T0 hT0⊢;refine⟨_,rfl,_,rfl,a,p,ns,0,rfl,T0,(by decide),λc x y z H1 l1 l2 l3 hc x1 h1=>?_⟩;have g1:Sg K a p c ns H1 (0+4):=⟨T0.next x1 h1 (by decide),x,y,z,l1,l2,l3,hc⟩;have hT1:=hT0.sx x1 T0.dq;refine⟨_,rfl,_,rfl,_,rfl,a,p,c,ns,0+4,rfl,g1,(by decide),λb aF H2 i2 hb0 hb lk B2 x2 g2 lo2 hi2=>?_⟩;have hT2:=hT1.sx x2 g1.T.dq;have nb:b≠p:=λz=>by rw[z,g2.T.dq]at hb;cases hb
 refine⟨_,rfl,_,rfl,_,rfl,_,rfl,a,p,ns,i2,5,rfl,g2.T,(by lia),(by decide),λwd H3 w0 w1 x3 h3=>?_⟩;have g3:=g2.next x3 h3 (by lia);refine⟨_,_,rfl,rfl,(c7 rfl),λp4 e4=>?_⟩;have t4:=ao e4 (.lst [V.int 0, .int 3, .int 90]);have g4:=g3.mono t4;have h4:(upd H3 p4 (.lst [V.int 0, .int 3, .int 90])) p4=some (.lst [V.int 0, .int 3, .int 90]):=aj;have np4:p4≠p:=λz=>by rw[z,g3.T.dq]at e4;cases e4
 have x4:=x3.trans t4.x;generalize upd H3 p4 (.lst [V.int 0, .int 3, .int 90])=H4 at t4 g4 h4 x4⊢;refine⟨_,rfl,_,rfl,a,p,ns,i2+1,3,rfl,g4.T,(by lia),(by decide),λwz H5 z0 z1 x5 h5=>?_⟩;have g5:=g4.next x5 h5 (by lia);obtain⟨near,acW,n0,n1⟩:∃near:Int,lX [V.int 0, .int 3, .int 90] wz=some (.int near)/\0<=near/\near<=90:=by
  have :wz=0\/wz=1\/wz=2:=by lia
  rcases this with rfl|rfl|rfl;·exact⟨0,rfl,by decide,by decide⟩
  ·exact⟨3,rfl,by decide,by decide⟩
  ·exact⟨90,rfl,by decide,by decide⟩
 refine⟨p4,_,_,_,rfl,rfl,bE.of (x5 _ _ np4 h4),acW,?_⟩;refine⟨_,rfl,a,p,c,ns,i2+1+1,1+wd,near,rfl,g5,(by lia),(by lia),(by lia),n0,n1,λk d v H6 i6 o=>?_⟩;have o1:=o.lo;have o2:=o.hi;refine⟨_,rfl,_,rfl,_,rfl,a,p,c,ns,i6,k,d,v,rfl,o.g,(by lia),o.r,o.wf,o.dp,o.kn,λk7 d7 v7 H7 i7 l=>?_⟩;have o3:=l.lo;have o4:=l.hi;have x27:=x4.trans (x5.trans (o.sx.trans l.sx));have B7:=B2.sx x27 (bG g2.T.dq);have hT7:=hT2.sx x27 g2.T.dq;have hb7:=x27 _ _ nb hb;obtain⟨B,br,bb⟩:=Ei B7;have td7:Td d7:=⟨⟨_,l.wf⟩,l.dp,l.kn⟩;refine⟨_,rfl,_,rfl,_,rfl,_,rfl,a,p,c,ns,i7,B,d7,v7,b,aF,rfl,l.g,(by lia),⟨hb7,br,bb,hT7⟩,l.r,td7,λlg rows us H8 i8 aed A9 lr pl rr x8 U lo8 hi8=>?_⟩;have XM:lg≠p:=λz=>by have :=l.g.T.dq;rw[<-z,aed]at this;cases this
 have W8:Bs H8 B b aF T1 T2:=Bs.sx ⟨hb7,br,bb,hT7⟩ x8 l.g.T.dq;have B8:=B7.sx x8 (bG l.g.T.dq);refine⟨λbj H'=>∃(B:Str->D)(aF:List (Key×V))(d:KM.D)(v:V)(lg:Addr)(rows:List Lg)(us:List V)(i:Int)(mv:Option V),bj=[some (.ref a),some (.ref p),some (.ref c),some (.ref b),some v,some (.ref lg),mv,none,none,none,none]/\Go K a p c b lg T1 T2 ns H' B aF d v rows us i,?_,?_⟩
 ·refine⟨_,rfl,_,rfl,a,p,ns,i8,7,rfl,U.T,(by lia),(by decide),λw7 H9 _ _ Z h9=>⟨rfl,_,rfl,?_⟩⟩;have g9:=U.next Z h9 (by lia);have W9:=W8.sx Z U.T.dq;have B9:=B8.sx Z (bG U.T.dq);refine ba (λ_=>?_) (λ_=>?_)
  ·refine⟨_,rfl,_,rfl,a,p,ns,i8+1,130,rfl,g9.T,(by lia),(by decide),λm PN m0 m1 x10 h10=>?_⟩;obtain⟨m,rfl⟩:∃k:Nat,m=(k:Int):=⟨m.toNat,by lia⟩;have S:=g9.next x10 h10 (by lia);have W10:=W9.sx x10 g9.T.dq;have B10:=B9.sx x10 (bG g9.T.dq);refine⟨(c7 rfl),λq1 e1=>⟨(c7 rfl),λq2 e2=>⟨(c7 rfl),λq3 e3=>?_⟩⟩⟩;have u1:=ao e1 (.tup [V.str "nat"]);have u2:=ao e2 (.tup [V.str "zero"]);have N:=ao e3 (.tup [V.ref q1, .ref q2]);have f1:=N _ _ (u2 _ _ (show(upd PN q1 (.tup [V.str "nat"])) q1=some (.tup [V.str "nat"])from aj));have f2:=N _ _ (show(upd (upd PN q1 (.tup [V.str "nat"])) q2 (.tup [V.str "zero"])) q2=some (.tup [V.str "zero"])from aj);have f3:(upd (upd (upd PN q1 (.tup [V.str "nat"])) q2 (.tup [V.str "zero"])) q3 (.tup [V.ref q1, .ref q2])) q3=some (.tup [V.ref q1, .ref q2]):=aj;have UA:=u1.trans (u2.trans N);generalize upd (upd (upd PN q1 (.tup [V.str "nat"])) q2 (.tup [V.str "zero"])) q3 (.tup [V.ref q1, .ref q2])=H11 at f1 f2 f3 UA⊢;have SA:=UA _ _ W10.hb;refine⟨_,rfl,_,rfl,_,rfl,m,b,aF,rfl,by lia,SA,B10.mono UA,lk,λL x n ZU B12 l12 x12 hx=>⟨b,_,rfl,Gy.k (k:=Sum.inr x) ZU (by have :L.length<=1000:=B12.len;exact Nat.lt_of_le_of_lt this (by decide)),?_⟩⟩;have xu:bD b n (upd n b (.dK (putK L (Sum.inr x) (.ref q3)))):=bD.upd _;have nt:∀{q:Addr}{vs:List V},H11 q=some (.tup vs)->n q=some (.tup vs):=λ{q vs}h=>x12 _ _ (λz=>by rw[z,SA]at h;cases h) h;have bV:R6 n (.ref q3):=⟨q3, .tup [.str "nat"], .tup [.str "zero"],_,_,rfl,nt f3,⟨q1,_,rfl,nt f1,A4 gY r0⟩,Cb,⟨q2,_,rfl,nt f2,A4 gY r0⟩,jq,by simp only[depth,aN];lia,by simp only[depth,aN];lia,by simp only[aG,aO];lia,by simp only[aG,aO];lia⟩;have aaI:(upd n b (.dK (putK L (Sum.inr x) (.ref q3)))) b=some (.dK (putK L (Sum.inr x) (.ref q3))):=aj;have B13:Bk (upd n b (.dK (putK L (Sum.inr x) (.ref q3)))) (putK L (Sum.inr x) (.ref q3)):=⟨dJ mG (by lia),λk' v' m'=>by
    rcases AH m' with m'|rfl;·exact(B12.each k' v' m').sx xu (d8 ZU)
    ·exact bV.sx xu (d8 ZU)⟩;have x13:=x12.trans xu;have g13:=(S.mono UA).sxb SA x13;have T13:=(W10.tb.mono UA).sxb x13 SA;generalize upd n b (.dK (putK L (Sum.inr x) (.ref q3)))=H13 at aaI B13 g13 T13⊢;obtain⟨B',br',bb'⟩:=Ei B13;refine⟨(c7 rfl),λq4 e4=>?_⟩;have v4:=ao e4 (.tup [V.str "name", .str "qaa"]);have y4:(upd H13 q4 (.tup [V.str "name", .str "qaa"])) q4=some (.tup [V.str "name", .str "qaa"]):=aj;generalize upd H13 q4 (.tup [V.str "name", .str "qaa"])=H14 at v4 y4⊢;refine⟨(c7 rfl),λJ e5=>?_⟩;have v5:=ao e5 (.tup []);have y5:(upd H14 J (.tup [])) J=some (.tup []):=aj;generalize upd H14 J (.tup [])=H15 at v5 y5⊢;refine⟨(c7 rfl),λu e6=>?_⟩;have v6:=ao e6 (.tup [V.ref J, .str "name"]);have y6:(upd H15 u (.tup [V.ref J, .str "name"])) u=some (.tup [V.ref J, .str "name"]):=aj;generalize upd H15 u (.tup [V.ref J, .str "name"])=H16 at v6 y6⊢;refine⟨(c7 rfl),λq7 e7=>?_⟩;have Y:=ao e7 (.lst [V.ref u]);have y7:(upd H16 q7 (.lst [V.ref u])) q7=some (.lst [V.ref u]):=aj;generalize upd H16 q7 (.lst [V.ref u])=H17 at Y y7⊢;refine⟨_,rfl,_,_,rfl,rfl,q7,_,_,rfl,rfl,y7,(by lia),(by lia),(by rw[sizeLine_eq,List.length_singleton];lia),λq8 e8=>?_⟩;have en:(((m:Nat):Int)+1).toNat=m+1:=by lia
   rw[en];have v8:=ao e8 (.lst (jQ (m+1) [V.ref u]).flatten);have XF:Rep H17 (oS ([],"name")) (.ref u):=⟨u,_,rfl,Y _ _ y6,A4 ⟨J,[],rfl,Y _ _ (v6 _ _ y5),rfl⟩ (A4 gY r0)⟩;have s38:=v4.trans (v5.trans (v6.trans (Y.trans v8)));exact⟨B',_, .tup [.str "name", .str "qaa"], .ref q4,q8,jQ (m+1) ([],"name"),_,i8+1+1,_,rfl,⟨⟨q4,_,rfl,v8 _ _ (Y _ _ (v6 _ _ (v5 _ _ y4))),A4 gY (A4 gY r0)⟩,⟨⟨false,BR rfl⟩,by simp only[depth,aN];lia,by simp only[aG,aO];lia⟩,aj,(C7 XF (m+1)).mono v8,by rw[List.length_replicate];lia,(λr j=>by rw[List.eq_of_mem_replicate j];exact fW _),(λz=>by have :=(g13.mono (v4.trans (v5.trans (v6.trans Y)))).T.dq;rw[<-z,e8]at this;cases this),⟨s38 _ _ aaI,br'.mono s38,bb',T13.mono s38⟩,B13.mono s38,g13.mono s38,by lia⟩⟩
  ·exact⟨B,aF,d7,v7,lg,rows,us,i8+1,none,rfl,⟨U.rep Z (l.g.rep x8 l.r),td7,Z _ _ XM A9,rr.fJ Z (bG U.T.dq),by lia,pl,XM,W9,B9,g9,by lia⟩⟩
 ·rintro bj H9⟨B,aF,d,v,lg,rows,us,i,mv,rfl,G⟩;have tkn:=G.td.kn;have tdp:=G.td.dp;have ghi:=G.hi;refine⟨_,rfl,_,rfl,_,rfl,_,rfl,_,rfl,d,v,b,aF,rfl,G.rd,G.td.wf,by lia,by lia,G.bs.hb,λrl ws PN aeC X R1 rws=>?_⟩;have S:=G.g.mono X;have lrs:0<(bW [] d).length:=by obtain⟨x,ps,k,rfl,_⟩:=jK G.td.wf;rw[jX,bS];lia
  refine⟨a,p,c,lg,rl,ns,i,rows,us,eE aF,bW [] d,ws,rfl,S,(by lia),G.np,(λz=>by have :=G.g.T.dq;rw[<-z,aeC]at this;cases this),X _ _ G.hl,G.rr.mono X,G.ln,G.pl,R1,rws,lrs,λlg1 C g H11 i11 np1 hl1 rr1 ln1 x11 g11 _ _=>?_⟩;have gln:=G.ln;have ae7:=(G.bs.mono X).sx x11 S.T.dq;have aem:=S.rep x11 (G.rd.mono X);have I:=ae7.wk aem G.td rr1;clear g11 x11 S R1 rws X;refine⟨_,rfl,_,rfl,_,rfl,B,d,v,b,lg1,aF,C,g,rfl,hl1,I,λud n FH r12=>?_⟩;have tdr:∀d',pO (eE aF) B d C= .th d'->Td d':=λd' e=>Q9 I.bb C d d' G.td e;refine⟨_,rfl,lg1,g,rfl, .inl (bE.of (FH _ _ hl1)),λW elh=>?_⟩;have N:=ao elh (.lst g);have hlh:(upd n W (.lst g)) W=some (.lst g):=aj;have Fv:=FH.trans N;have r13:=r12.mono N;generalize upd n W (.lst g)=H13 at N hlh Fv r13⊢;refine⟨_,rfl,_,rfl,_,rfl,b,aF,rfl,Fv _ _ I.hb,λbd ebd=>?_⟩;have u4:=ao ebd (.dK aF);have hbd:(upd H13 bd (.dK aF)) bd=some (.dK aF):=aj;have As:=Fv.trans u4;have r14:=r13.mono u4;have JY:=u4 _ _ hlh;generalize upd H13 bd (.dK aF)=H14 at u4 hbd As r14 JY⊢;have O:=I.mono As;refine⟨B,d,v,bd,W,aF,C,g,rfl, .inl JY,⟨O.rd,O.td,O.rr,hbd,O.br,O.bb,O.tb⟩,λuf H15 R4 r15=>?_⟩;refine⟨_,rfl,_,rfl,sC _ tdr r15 (r14.mono R4) ⟨_,rfl,jZ ?_⟩⟩;have Sr:=As.trans R4;have hl5:=Sr _ _ hl1;refine⟨_,rfl,_,rfl,W,lg1,g,g,rfl,rfl,bE.of (R4 _ _ JY),bE.of hl5,JC rr1, .inl ⟨rfl,_,rfl,jZ ?_⟩⟩;refine⟨_,rfl,_,rfl,lg1,g,rfl, .inl ⟨bE.of hl5,λlt elt=>?_⟩⟩;have u6:=ao elt (.tup g);have ow:(upd H15 lt (.tup g)) lt=some (.tup g):=aj;have s16:=Sr.trans u6;have r16:=(r14.mono R4).mono u6;have Va:=u6 _ _ (R4 _ _ JY);generalize upd H15 lt (.tup g)=H16 at u6 ow s16 r16 Va⊢;refine⟨_,rfl,B,d,v,b,lt,aF,C,g,rfl, .inr ow,I.mono s16,λu7 H17 s17 r17=>?_⟩;have r7:=r16.mono s17;refine⟨_,rfl,sC _ tdr r17 r7 ⟨_,rfl,jZ ?_⟩⟩;have s07:=s16.trans s17;refine⟨_,rfl,_,rfl,lg1,g,rfl,bE.of (s07 _ _ hl1),λls els=>?_⟩;have u8:=ao els (.lst (gJ g none (some 1)));have hls:(upd H17 ls (.lst (gJ g none (some 1)))) ls=some (.lst (gJ g none (some 1))):=aj;have s18:=s07.trans u8;have r18:=r7.mono u8;have Vr:=u8 _ _ (s17 _ _ Va);generalize upd H17 ls (.lst (gJ g none (some 1)))=H18 at u8 hls s18 r18 Vr⊢;rw[show(1:Int)=((1:Nat):Int)from rfl,vq]at hls;have rr2:bg H18 ((C.take 1).map oS) (g.take 1):=by rw[List.map_take];exact oY 1 (rr1.mono s18)
  have R:=I.mono s18;have Wsh:Fb H18 B d v b aF (C.take 1) (g.take 1) T1 T2:=⟨R.rd,R.td,rr2,R.hb,R.br,R.bb,R.tb⟩;refine⟨_,rfl,_,rfl,_,rfl,B,d,v,b,ls,aF,C.take 1,g.take 1,rfl, .inl hls,Wsh,λu9 H19 s19 r19=>?_⟩;refine⟨_,rfl,_,rfl,_,rfl,B,d,v,b,ls,aF,C.take 1,g.take 1,rfl,s19 _ _ hls,Wsh.mono s19,λu10 H20 s20 r20=>?_⟩;refine sC _ (λd' e=>Q9 I.bb _ d d' G.td e) (r19.mono s20) r20 ⟨_,rfl,jZ ?_⟩;have adz:=s18.trans (s19.trans s20);refine⟨_,rfl,_,rfl,_,rfl,B,d,v,b,W,aF,C,g,rfl, .inl (s20 _ _ (s19 _ _ Vr)),I.mono adz,λu11 H21 s21 r21=>?_⟩;exact⟨_,rfl,sC _ tdr r21 ((r18.mono (s19.trans s20)).mono s21) (q _)⟩
end K24
end
section
namespace K24
open PySem L2 L3 KM
structure Txt(K:PySem.W.Frag)(mg:Str->Option Value)(t:xV):Prop where
 M:Mg mg t
 DS:Df K mg "is_number" hI ["value"]
 Mp:Df K mg "is_vast" iQ ["value"]
 Mm:Df K mg "kids_of" kM ["thing"]
 G0:Df K mg "binds_of" gS ["thing"]
 w8:Df K mg "top_variable" du ["thing"]
 LX:Df K mg "bounded" kR ["thing"]
 Ml:Df K mg "rebuilt" kU ["thing","kids"]
 Qn:Df K mg "kid_at" mD ["thing","number"]
 F5:Df K mg "at_place" jt ["thing","place"]
 CS:Df K mg "changed_at" eY ["thing","place","new"]
 Mf:Df K mg "with_at" kT ["thing","place","new"]
 qz:Df K mg "with_free" eO ["thing","binders","change"]
 N5:Df K mg "raised" kD ["thing","by","low"]
 Ro:Df K mg "put_in" j5 ["thing","other","at"]
 MA:Df K mg "rule_of" kI ["thing","book"]
 B_:Df K mg "after_next" gp ["thing"]
 BM:Df K mg "after_rule" gu ["thing","rule","book"]
 MH:Df K mg "stepped" kN ["thing","place","book"]
 Rq:Df K mg "walked" m_ ["thing","log","book"]
 GF:Df K mg "_law_draw" jr Bi
 Eu:Df K mg "_law_named" g7 ["_law_word_here"]
 GN:Df K mg "_law_pool" fA ["_law_script","_law_tape"]
 Hc:Df K mg "_law_leaf" jn ["_law_script","_law_tape","_law_near","_law_pool_here"]
 FZ:Df K mg "_law_kind" gX eQ
 L_:Df K mg "_law_fun" iS eQ
 F2:Df K mg "_law_pair" gL eQ
 GD:Df K mg "_law_like" gR eQ
 Bh:Df K mg "_law_number" eZ eQ
 Bv:Df K mg "_law_parted" fb LC
 EY:Df K mg "_law_still" fQ LC
 GP:Df K mg "_law_term" gB eQ
 FT:Df K mg "_law_kids" iZ ["_law_thing_here"]
 j_:Df K mg "_law_measured" dY ["_law_thing_here"]
 pG:Df K mg "_law_great" hU ["_law_thing_here"]
 D5:Df K mg "_law_thing" hV eQ
 GJ:Df K mg "_law_book" jv ["_law_script","_law_tape","_law_pool_here"]
 F3:Df K mg "_law_rule" iY ["_law_thing_here","_law_book_here"]
 GV:Df K mg "_law_rows" jC ["_law_thing_here","_law_book_here"]
 FF:Df K mg "_law_word" jl ["_law_e"]
 D_:Df K mg "_law_chain" ik ["_law_many","_law_book_here"]
 zD:Df K mg "_law_wrapped" fG ["_law_script","_law_tape","_law_thing_here"]
 ED:Df K mg "_law_under" ig ["_law_script","_law_tape","_law_thing_here"]
 Mx:Df K mg "_law_log" iB ["_law_script","_law_tape","_law_thing_here","_law_book_here"]
 BF:Df K mg "_law_spoilt" gk ["_law_script","_law_tape","_law_log_here","_law_rows_here"]
 LM:Df K mg "_law_due" iJ ["_law_thing_here","_law_log_here","_law_book_here"]
 GQ:Df K mg "_law_told" ja ["_law_thing_here","_law_log_here","_law_book_here"]
 abO:Df K mg "law" Hy ["_law_script"]
 GL:∃as,KD K t.yI [("nat",[]),("none",[]),("all",[.str "kind", .str "kind"]),("some",[.str "kind", .str "kind"]),("same",[.str "kind", .str "term", .str "term"]),("var",[]),("fun",[.str "kind", .str "term"]),("app",[.str "term", .str "term"]),("zero",[]),("next",[.str "term"]),("rec",[.str "kind", .str "term", .str "term", .str "term"]),("like",[.str "kind", .str "term"]),("carry",[.str "kind", .str "term", .str "term"]),("never",[.str "kind", .str "term"]),("pair",[.str "kind", .str "term", .str "term"]),("first",[.str "term"]),("second",[.str "term"]),("name",[])] as
 zH:mf K t.j6 [("all", .int 1),("some", .int 1),("fun", .int 1),("rec", .int 0),("carry", .int 0)]
 T_:Rul K t.Jl
 X:Ek K t
theorem txt_mk{K:PySem.W.Frag}{h:Heap}{mg:Str->Option Value}(X:K.In h)(G:h.Ns mainGlobals mg){zF:Tok}{CT:Tok}{pC:Tok}{D:Addr}{F:Array DictEntry}{E6:Nat}{I S T U V W Y Z qA pT J L M N O P Q R:Addr}{Bm:Option Addr}{mn:Array Value}{A0:Nat}{Ca:Array (Option Value)}{C0:Option Addr}{nO:Array Value}{BU:Nat}{BS:Array (Option Value)}{Bq:Option Addr}{oo:Array Value}{Ck:Nat}{Bl:Array (Option Value)}{Bj:Option Addr}{mO:Array Value}{BZ:Nat}{AV:Array (Option Value)}{Bn:Option Addr}{nS:Array Value}{BC:Nat}{AM:Array (Option Value)}{CY:Option Addr}{nZ:Array Value}{Ci:Nat}{BH:Array (Option Value)}{BV:Option Addr}{nc:Array Value}{Cz:Nat}{BP:Array (Option Value)}{BA:Option Addr}{mL:Array Value}{CP:Nat}{Bo:Array (Option Value)}{Ez:Option Addr}{qu:Array Value}{Fo:Nat}{Fm:Array (Option Value)}{El:Option Addr}{p9:Array Value}{En:Nat}{Eh:Array (Option Value)}{DT:Option Addr}{pP:Array Value}{EM:Nat}{DN:Array (Option Value)}{E7:Option Addr}{pX:Array Value}{Fn:Nat}{Er:Array (Option Value)}{EB:Option Addr}{qc:Array Value}{EO:Nat}{Dr:Array (Option Value)}{Dz:Option Addr}{pK:Array Value}{DU:Nat}{Fh:Array (Option Value)}{DR:Option Addr}{qx:Array Value}{Eo:Nat}{E4:Array (Option Value)}{E9:Option Addr}{pJ:Array Value}{Dg:Nat}{DK:Array (Option Value)}{D8:Option Addr}{pU:Array Value}{EX:Nat}{Dy:Array (Option Value)}{DC:Option Addr}{qv:Array Value}{DB:Nat}{Ed:Array (Option Value)}{C:Addr}{j4:Array DictEntry}{yC:Nat}{E:Addr}{H:Array DictEntry}{NS:Nat}{r v x z B:Addr}{q:Addr}{PL:Option Addr}{D9:Array Value}{RN:Nat}{Q8:Array (Option Value)}{FC:Option Addr}{yV:Array Value}{Hr:Nat}{Gp:Array (Option Value)}{s u:Addr}{N9:Option Addr}{Ec:Array Value}{Ph:Nat}{OH:Array (Option Value)}{Hb:Option Addr}{xy:Array Value}{GR:Nat}{Hf:Array (Option Value)}{FG:Option Addr}{yM:Array Value}{Hh:Nat}{FJ:Array (Option Value)}{w:Addr}{NY:Option Addr}{C_:Array Value}{QJ:Nat}{Qg:Array (Option Value)}{FK:Option Addr}{xY:Array Value}{FV:Nat}{GX:Array (Option Value)}{y:Addr}{Q7:Option Addr}{C5:Array Value}{O5:Nat}{QD:Array (Option Value)}{GG:Option Addr}{yD:Array Value}{Gr:Nat}{He:Array (Option Value)}{A:Addr}{PF:Option Addr}{Ew:Array Value}{OZ:Nat}{QG:Array (Option Value)}{Fy:Option Addr}{xR:Array Value}{F7:Nat}{Hi:Array (Option Value)}{d:Addr}{a:Addr}{b:Addr}{c:Addr}{e:Addr}{i:Addr}{f:Addr}{k:Addr}{n:Addr}{m:Addr}{p:Addr}{g:Addr}{j:Addr}{o:Addr}{l:Addr}(a0:cC K "is_number" hI)(a1:cC K "is_vast" iQ)(a2:cC K "kids_of" kM)(a3:cC K "binds_of" gS)(a4:cC K "top_variable" du)(a5:cC K "bounded" kR)(a6:cC K "rebuilt" kU)(a7:cC K "kid_at" mD)(a8:cC K "at_place" jt)(a9:cC K "changed_at" eY)(a10:cC K "with_at" kT)(a11:cC K "with_free" eO)(a12:cC K "raised" kD)(a13:cC K "put_in" j5)(a14:cC K "rule_of" kI)(a15:cC K "after_next" gp)(a16:cC K "after_rule" gu)(a17:cC K "stepped" kN)(a18:cC K "walked" m_)(a19:cC K "_law_draw" jr)(a20:cC K "_law_named" g7)(a21:cC K "_law_pool" fA)(a22:cC K "_law_leaf" jn)(a23:cC K "_law_kind" gX)(a24:cC K "_law_fun" iS)(a25:cC K "_law_pair" gL)(a26:cC K "_law_like" gR)(a27:cC K "_law_number" eZ)(a28:cC K "_law_parted" fb)(a29:cC K "_law_still" fQ)(a30:cC K "_law_term" gB)(a31:cC K "_law_kids" iZ)(a32:cC K "_law_measured" dY)(a33:cC K "_law_great" hU)(a34:cC K "_law_thing" hV)(a35:cC K "_law_book" jv)(a36:cC K "_law_rule" iY)(a37:cC K "_law_rows" jC)(a38:cC K "_law_word" jl)(a39:cC K "_law_chain" ik)(a40:cC K "_law_wrapped" fG)(a41:cC K "_law_under" ig)(a42:cC K "_law_log" iB)(a43:cC K "_law_spoilt" gk)(a44:cC K "_law_due" iJ)(a45:cC K "_law_told" ja)(a46:cC K "law" Hy)(z_ValueError:PySem.W.nsIn K mainGlobals "ValueError"=some none)(z_bool:PySem.W.nsIn K mainGlobals "bool"=some none)(z_dict:PySem.W.nsIn K mainGlobals "dict"=some none)(z_int:PySem.W.nsIn K mainGlobals "int"=some none)(z_isinstance:PySem.W.nsIn K mainGlobals "isinstance"=some none)(z_len:PySem.W.nsIn K mainGlobals "len"=some none)(z_list:PySem.W.nsIn K mainGlobals "list"=some none)(z_max:PySem.W.nsIn K mainGlobals "max"=some none)(z_min:PySem.W.nsIn K mainGlobals "min"=some none)(z_range:PySem.W.nsIn K mainGlobals "range"=some none)(z_tuple:PySem.W.nsIn K mainGlobals "tuple"=some none)(z_zip:PySem.W.nsIn K mainGlobals "zip"=some none)(g_MOST_KNOTS:PySem.W.nsIn K mainGlobals "MOST_KNOTS"=some (some (.int 600 zF)))(g_MOST_DEEP:PySem.W.nsIn K mainGlobals "MOST_DEEP"=some (some (.int 40 CT)))(g_MOST_VARIABLE:PySem.W.nsIn K mainGlobals "MOST_VARIABLE"=some (some (.int 99 pC)))(g_KIDS_DUE:PySem.W.nsIn K mainGlobals "KIDS_DUE"=some (some (.ref D)))(lk_KIDS_DUE:K.lookup D=some ⟨.type "dict",none, .dict F E6,#[]⟩)(sy_KIDS_DUE:(D==sysModules)=false)(ks_KIDS_DUE:gf F.toList ["nat","none","all","some","same","var","fun","app","zero","next","rec","like","carry","never","pair","first","second","name"]=true)(rf_KIDS_DUE:refsOf F.toList=[I,S,T,U,V,W,Y,Z,qA,pT,J,L,M,N,O,P,Q,R])(u0_KIDS_DUE:K.lookup I=some ⟨.type "tuple",DC, .seq qv DB,Ed⟩)(v0_KIDS_DUE:cA [] qv=true)(u1_KIDS_DUE:K.lookup S=some ⟨.type "tuple",D8, .seq pU EX,Dy⟩)(v1_KIDS_DUE:cA [] pU=true)(u2_KIDS_DUE:K.lookup T=some ⟨.type "tuple",E9, .seq pJ Dg,DK⟩)(v2_KIDS_DUE:cA [.str "kind", .str "kind"] pJ=true)(u3_KIDS_DUE:K.lookup U=some ⟨.type "tuple",DR, .seq qx Eo,E4⟩)(v3_KIDS_DUE:cA [.str "kind", .str "kind"] qx=true)(u4_KIDS_DUE:K.lookup V=some ⟨.type "tuple",Dz, .seq pK DU,Fh⟩)(v4_KIDS_DUE:cA [.str "kind", .str "term", .str "term"] pK=true)(u5_KIDS_DUE:K.lookup W=some ⟨.type "tuple",EB, .seq qc EO,Dr⟩)(v5_KIDS_DUE:cA [] qc=true)(u6_KIDS_DUE:K.lookup Y=some ⟨.type "tuple",E7, .seq pX Fn,Er⟩)(v6_KIDS_DUE:cA [.str "kind", .str "term"] pX=true)(u7_KIDS_DUE:K.lookup Z=some ⟨.type "tuple",DT, .seq pP EM,DN⟩)(v7_KIDS_DUE:cA [.str "term", .str "term"] pP=true)(u8_KIDS_DUE:K.lookup qA=some ⟨.type "tuple",El, .seq p9 En,Eh⟩)(v8_KIDS_DUE:cA [] p9=true)(u9_KIDS_DUE:K.lookup pT=some ⟨.type "tuple",Ez, .seq qu Fo,Fm⟩)(v9_KIDS_DUE:cA [.str "term"] qu=true)(u10_KIDS_DUE:K.lookup J=some ⟨.type "tuple",BA, .seq mL CP,Bo⟩)(v10_KIDS_DUE:cA [.str "kind", .str "term", .str "term", .str "term"] mL=true)(u11_KIDS_DUE:K.lookup L=some ⟨.type "tuple",BV, .seq nc Cz,BP⟩)(v11_KIDS_DUE:cA [.str "kind", .str "term"] nc=true)(u12_KIDS_DUE:K.lookup M=some ⟨.type "tuple",CY, .seq nZ Ci,BH⟩)(v12_KIDS_DUE:cA [.str "kind", .str "term", .str "term"] nZ=true)(u13_KIDS_DUE:K.lookup N=some ⟨.type "tuple",Bn, .seq nS BC,AM⟩)(v13_KIDS_DUE:cA [.str "kind", .str "term"] nS=true)(u14_KIDS_DUE:K.lookup O=some ⟨.type "tuple",Bj, .seq mO BZ,AV⟩)(v14_KIDS_DUE:cA [.str "kind", .str "term", .str "term"] mO=true)(u15_KIDS_DUE:K.lookup P=some ⟨.type "tuple",Bq, .seq oo Ck,Bl⟩)(v15_KIDS_DUE:cA [.str "term"] oo=true)(u16_KIDS_DUE:K.lookup Q=some ⟨.type "tuple",C0, .seq nO BU,BS⟩)(v16_KIDS_DUE:cA [.str "term"] nO=true)(u17_KIDS_DUE:K.lookup R=some ⟨.type "tuple",Bm, .seq mn A0,Ca⟩)(v17_KIDS_DUE:cA [] mn=true)(g_BINDER_OVER:PySem.W.nsIn K mainGlobals "BINDER_OVER"=some (some (.ref C)))(lk_BINDER_OVER:K.lookup C=some ⟨.type "dict",none, .dict j4 yC,#[]⟩)(sy_BINDER_OVER:(C==sysModules)=false)(vs_BINDER_OVER:jB j4.toList [("all",1),("some",1),("fun",1),("rec",0),("carry",0)]=true)(g_RULES:PySem.W.nsIn K mainGlobals "RULES"=some (some (.ref E)))(lk_RULES:K.lookup E=some ⟨.type "dict",none, .dict H NS,#[]⟩)(sy_RULES:(E==sysModules)=false)(ks_RULES:gf H.toList ["app","rec","carry","first","second"]=true)(rf_RULES:refsOf H.toList=[r,v,x,z,B])(u0_RULES:K.lookup r=some ⟨.type "tuple",PL, .seq D9 RN,Q8⟩)(v0_RULES:D9.toList=[Value.ref q])(u0_0_RULES:K.lookup q=some ⟨.type "tuple",FC, .seq yV Hr,Gp⟩)(v0_0_RULES:cA [.int 1, .str "fun", .str "fun"] yV=true)(u1_RULES:K.lookup v=some ⟨.type "tuple",N9, .seq Ec Ph,OH⟩)(v1_RULES:Ec.toList=[Value.ref s,Value.ref u])(u1_0_RULES:K.lookup s=some ⟨.type "tuple",Hb, .seq xy GR,Hf⟩)(v1_0_RULES:cA [.int 4, .str "zero", .str "zero"] xy=true)(u1_1_RULES:K.lookup u=some ⟨.type "tuple",FG, .seq yM Hh,FJ⟩)(v1_1_RULES:cA [.int 4, .str "next", .str "next"] yM=true)(u2_RULES:K.lookup x=some ⟨.type "tuple",NY, .seq C_ QJ,Qg⟩)(v2_RULES:C_.toList=[Value.ref w])(u2_0_RULES:K.lookup w=some ⟨.type "tuple",FK, .seq xY FV,GX⟩)(v2_0_RULES:cA [.int 3, .str "like", .str "like"] xY=true)(u3_RULES:K.lookup z=some ⟨.type "tuple",Q7, .seq C5 O5,QD⟩)(v3_RULES:C5.toList=[Value.ref y])(u3_0_RULES:K.lookup y=some ⟨.type "tuple",GG, .seq yD Gr,He⟩)(v3_0_RULES:cA [.int 1, .str "pair", .str "first"] yD=true)(u4_RULES:K.lookup B=some ⟨.type "tuple",PF, .seq Ew OZ,QG⟩)(v4_RULES:Ew.toList=[Value.ref A])(u4_0_RULES:K.lookup A=some ⟨.type "tuple",Fy, .seq xR F7,Hi⟩)(v4_0_RULES:cA [.int 1, .str "pair", .str "second"] xR=true)(g_KeeperError:PySem.W.nsIn K mainGlobals "KeeperError"=some (some (.ref d)))(g_Great:PySem.W.nsIn K mainGlobals "Great"=some (some (.ref a)))(g_NoPlace:PySem.W.nsIn K mainGlobals "NoPlace"=some (some (.ref b)))(g_NoStep:PySem.W.nsIn K mainGlobals "NoStep"=some (some (.ref c)))(g_Dry:PySem.W.nsIn K mainGlobals "Dry"=some (some (.ref e)))(g_NoVariable:PySem.W.nsIn K mainGlobals "NoVariable"=some (some (.ref i)))(g_NoName:PySem.W.nsIn K mainGlobals "NoName"=some (some (.ref f)))(g_NotAll:PySem.W.nsIn K mainGlobals "NotAll"=some (some (.ref k)))(g_NotSome:PySem.W.nsIn K mainGlobals "NotSome"=some (some (.ref n)))(g_NotSame:PySem.W.nsIn K mainGlobals "NotSame"=some (some (.ref m)))(g_Unlike:PySem.W.nsIn K mainGlobals "Unlike"=some (some (.ref p)))(g_NoText:PySem.W.nsIn K mainGlobals "NoText"=some (some (.ref g)))(g_NoWord:PySem.W.nsIn K mainGlobals "NoWord"=some (some (.ref j)))(g_TwiceTold:PySem.W.nsIn K mainGlobals "TwiceTold"=some (some (.ref o)))(g_NotClosed:PySem.W.nsIn K mainGlobals "NotClosed"=some (some (.ref l)))(x_e0:PySem.W.excIn K a [.type "ValueError", .type "Exception", .type "BaseException", .type "object"] "ValueError.__new__"=true)(x_e1:PySem.W.excIn K b [.type "ValueError", .type "Exception", .type "BaseException", .type "object"] "ValueError.__new__"=true)(x_e2:PySem.W.excIn K c [.type "ValueError", .type "Exception", .type "BaseException", .type "object"] "ValueError.__new__"=true)(x_e3:PySem.W.excIn K d [.type "ValueError", .type "Exception", .type "BaseException", .type "object"] "ValueError.__new__"=true)(x_x0:PySem.W.subIn K (.ref a) (.ref a)=some true)(x_c01:PySem.W.findIn K (.ref a) "__getattribute__"=some (some (.builtin "BaseException.__getattribute__")))(x_c02:PySem.W.findIn K (.ref a) "__class__"=some (some (.builtin "object.__class__")))(x_c03:PySem.W.findIn K (.ref a) "__getattr__"=some none)(x_c04:PySem.W.mroIn K a (.type "object")=some true)(x_c05:PySem.W.mroIn K a (.type "BaseException")=some true)(x_c06:(PySem.W.clsIn K a).isSome=true)(x_s0:PySem.W.subIn K (.ref a) (.ref d)=some true)(x_v0:PySem.W.kitOne K (.ref a) (.type "ValueError")=some true)(x_k0_0:PySem.W.kitOne K (.ref a) (.ref a)=some true)(x_k0_1:PySem.W.kitOne K (.ref a) (.ref b)=some false)(x_k0_2:PySem.W.kitOne K (.ref a) (.ref c)=some false)(x_k0_3:PySem.W.kitOne K (.ref a) (.ref e)=some false)(x_a0:PySem.W.kitAny K (.ref a) [.ref i, .ref f, .ref k, .ref n, .ref m, .ref p, .ref g, .ref j, .ref o, .ref l]=some false)(x_c11:PySem.W.findIn K (.ref b) "__getattribute__"=some (some (.builtin "BaseException.__getattribute__")))(x_c12:PySem.W.findIn K (.ref b) "__class__"=some (some (.builtin "object.__class__")))(x_c13:PySem.W.findIn K (.ref b) "__getattr__"=some none)(x_c14:PySem.W.mroIn K b (.type "object")=some true)(x_c15:PySem.W.mroIn K b (.type "BaseException")=some true)(x_c16:(PySem.W.clsIn K b).isSome=true)(x_s1:PySem.W.subIn K (.ref b) (.ref d)=some true)(x_v1:PySem.W.kitOne K (.ref b) (.type "ValueError")=some true)(x_k1_0:PySem.W.kitOne K (.ref b) (.ref a)=some false)(x_k1_1:PySem.W.kitOne K (.ref b) (.ref b)=some true)(x_k1_2:PySem.W.kitOne K (.ref b) (.ref c)=some false)(x_k1_3:PySem.W.kitOne K (.ref b) (.ref e)=some false)(x_a1:PySem.W.kitAny K (.ref b) [.ref i, .ref f, .ref k, .ref n, .ref m, .ref p, .ref g, .ref j, .ref o, .ref l]=some false)(x_c21:PySem.W.findIn K (.ref c) "__getattribute__"=some (some (.builtin "BaseException.__getattribute__")))(x_c22:PySem.W.findIn K (.ref c) "__class__"=some (some (.builtin "object.__class__")))(x_c23:PySem.W.findIn K (.ref c) "__getattr__"=some none)(x_c24:PySem.W.mroIn K c (.type "object")=some true)(x_c25:PySem.W.mroIn K c (.type "BaseException")=some true)(x_c26:(PySem.W.clsIn K c).isSome=true)(x_s2:PySem.W.subIn K (.ref c) (.ref d)=some true)(x_v2:PySem.W.kitOne K (.ref c) (.type "ValueError")=some true)(x_k2_0:PySem.W.kitOne K (.ref c) (.ref a)=some false)(x_k2_1:PySem.W.kitOne K (.ref c) (.ref b)=some false)(x_k2_2:PySem.W.kitOne K (.ref c) (.ref c)=some true)(x_k2_3:PySem.W.kitOne K (.ref c) (.ref e)=some false)(x_a2:PySem.W.kitAny K (.ref c) [.ref i, .ref f, .ref k, .ref n, .ref m, .ref p, .ref g, .ref j, .ref o, .ref l]=some false):∃t,Txt K mg t:=⟨⟨(),D,C,E,d,a,b,c,e,i,f,k,n,m,p,g,j,o,l⟩,⟨⟨PySem.W.mg_none_of X G z_ValueError,PySem.W.mg_none_of X G z_bool,PySem.W.mg_none_of X G z_dict,PySem.W.mg_none_of X G z_int,PySem.W.mg_none_of X G z_isinstance,PySem.W.mg_none_of X G z_len,PySem.W.mg_none_of X G z_list,PySem.W.mg_none_of X G z_max,PySem.W.mg_none_of X G z_min,PySem.W.mg_none_of X G z_range,PySem.W.mg_none_of X G z_tuple,PySem.W.mg_none_of X G z_zip,⟨_,PySem.W.mg_of X G g_MOST_KNOTS⟩,⟨_,PySem.W.mg_of X G g_MOST_DEEP⟩,⟨_,PySem.W.mg_of X G g_MOST_VARIABLE⟩,PySem.W.mg_of X G g_KIDS_DUE,PySem.W.mg_of X G g_BINDER_OVER,PySem.W.mg_of X G g_RULES,PySem.W.mg_of X G g_KeeperError,PySem.W.mg_of X G g_Great,PySem.W.mg_of X G g_NoPlace,PySem.W.mg_of X G g_NoStep,PySem.W.mg_of X G g_Dry,PySem.W.mg_of X G g_NoVariable,PySem.W.mg_of X G g_NoName,PySem.W.mg_of X G g_NotAll,PySem.W.mg_of X G g_NotSome,PySem.W.mg_of X G g_NotSame,PySem.W.mg_of X G g_Unlike,PySem.W.mg_of X G g_NoText,PySem.W.mg_of X G g_NoWord,PySem.W.mg_of X G g_TwiceTold,PySem.W.mg_of X G g_NotClosed⟩,a0.df X G λ_ _ _ _ _ _=>iW (λ_=>rfl),a1.df X G λ_ _ _ _ _ _=>iW (λ_=>rfl),a2.df X G λ_ _ _ _ _ _=>iW (λ_=>rfl),a3.df X G λ_ _ _ _ _ _=>iW (λ_=>rfl),a4.df X G λ_ _ _ _ _ _=>iW (λ_=>rfl),a5.df X G λ_ _ _ _ _ _=>iW (λ_=>rfl),a6.df X G λ_ _ _ _ _ _=>LV (λ_ _=>rfl),a7.df X G λ_ _ _ _ _ _=>LV (λ_ _=>rfl),a8.df X G λ_ _ _ _ _ _=>LV (λ_ _=>rfl),a9.df X G λ_ _ _ _ _ _=>FP (λ_ _ _=>rfl),a10.df X G λ_ _ _ _ _ _=>FP (λ_ _ _=>rfl),a11.df X G λ_ _ _ _ _ _=>FP (λ_ _ _=>rfl),a12.df X G λ_ _ _ _ _ _=>FP (λ_ _ _=>rfl),a13.df X G λ_ _ _ _ _ _=>FP (λ_ _ _=>rfl),a14.df X G λ_ _ _ _ _ _=>LV (λ_ _=>rfl),a15.df X G λ_ _ _ _ _ _=>iW (λ_=>rfl),a16.df X G λ_ _ _ _ _ _=>FP (λ_ _ _=>rfl),a17.df X G λ_ _ _ _ _ _=>FP (λ_ _ _=>rfl),a18.df X G λ_ _ _ _ _ _=>FP (λ_ _ _=>rfl),a19.df X G λ_ _ _ _ _ _=>FP (λ_ _ _=>rfl),a20.df X G λ_ _ _ _ _ _=>iW (λ_=>rfl),a21.df X G λ_ _ _ _ _ _=>LV (λ_ _=>rfl),a22.df X G λ_ _ _ _ _ _=>by4 (λ_ _ _ _=>rfl),a23.df X G λ_ _ _ _ _ _=>VI (λ_ _ _ _ _=>rfl),a24.df X G λ_ _ _ _ _ _=>VI (λ_ _ _ _ _=>rfl),a25.df X G λ_ _ _ _ _ _=>VI (λ_ _ _ _ _=>rfl),a26.df X G λ_ _ _ _ _ _=>VI (λ_ _ _ _ _=>rfl),a27.df X G λ_ _ _ _ _ _=>VI (λ_ _ _ _ _=>rfl),a28.df X G λ_ _ _ _ _ _=>by6 (λ_ _ _ _ _ _=>rfl),a29.df X G λ_ _ _ _ _ _=>by6 (λ_ _ _ _ _ _=>rfl),a30.df X G λ_ _ _ _ _ _=>VI (λ_ _ _ _ _=>rfl),a31.df X G λ_ _ _ _ _ _=>iW (λ_=>rfl),a32.df X G λ_ _ _ _ _ _=>iW (λ_=>rfl),a33.df X G λ_ _ _ _ _ _=>iW (λ_=>rfl),a34.df X G λ_ _ _ _ _ _=>VI (λ_ _ _ _ _=>rfl),a35.df X G λ_ _ _ _ _ _=>FP (λ_ _ _=>rfl),a36.df X G λ_ _ _ _ _ _=>LV (λ_ _=>rfl),a37.df X G λ_ _ _ _ _ _=>LV (λ_ _=>rfl),a38.df X G λ_ _ _ _ _ _=>iW (λ_=>rfl),a39.df X G λ_ _ _ _ _ _=>LV (λ_ _=>rfl),a40.df X G λ_ _ _ _ _ _=>FP (λ_ _ _=>rfl),a41.df X G λ_ _ _ _ _ _=>FP (λ_ _ _=>rfl),a42.df X G λ_ _ _ _ _ _=>by4 (λ_ _ _ _=>rfl),a43.df X G λ_ _ _ _ _ _=>by4 (λ_ _ _ _=>rfl),a44.df X G λ_ _ _ _ _ _=>FP (λ_ _ _=>rfl),a45.df X G λ_ _ _ _ _ _=>FP (λ_ _ _=>rfl),a46.df X G λ_ _ _ _ _ _=>iW (λ_=>rfl),⟨_,abZ sy_KIDS_DUE lk_KIDS_DUE ks_KIDS_DUE rf_KIDS_DUE rfl (cN (cH u0_KIDS_DUE v0_KIDS_DUE) (cN (cH u1_KIDS_DUE v1_KIDS_DUE) (cN (cH u2_KIDS_DUE v2_KIDS_DUE) (cN (cH u3_KIDS_DUE v3_KIDS_DUE) (cN (cH u4_KIDS_DUE v4_KIDS_DUE) (cN (cH u5_KIDS_DUE v5_KIDS_DUE) (cN (cH u6_KIDS_DUE v6_KIDS_DUE) (cN (cH u7_KIDS_DUE v7_KIDS_DUE) (cN (cH u8_KIDS_DUE v8_KIDS_DUE) (cN (cH u9_KIDS_DUE v9_KIDS_DUE) (cN (cH u10_KIDS_DUE v10_KIDS_DUE) (cN (cH u11_KIDS_DUE v11_KIDS_DUE) (cN (cH u12_KIDS_DUE v12_KIDS_DUE) (cN (cH u13_KIDS_DUE v13_KIDS_DUE) (cN (cH u14_KIDS_DUE v14_KIDS_DUE) (cN (cH u15_KIDS_DUE v15_KIDS_DUE) (cN (cH u16_KIDS_DUE v16_KIDS_DUE) (cN (cH u17_KIDS_DUE v17_KIDS_DUE) XU))))))))))))))))))⟩,SN sy_BINDER_OVER lk_BINDER_OVER vs_BINDER_OVER,⟨r,v,x,z,B,q,s,u,w,y,A,Tu ["app","rec","carry","first","second"] [r,v,x,z,B] sy_RULES lk_RULES ks_RULES rf_RULES,x_ [q] u0_RULES v0_RULES (by simp),cH u0_0_RULES v0_0_RULES,x_ [s,u] u1_RULES v1_RULES (by simp),cH u1_0_RULES v1_0_RULES,cH u1_1_RULES v1_1_RULES,x_ [w] u2_RULES v2_RULES (by simp),cH u2_0_RULES v2_0_RULES,x_ [y] u3_RULES v3_RULES (by simp),cH u3_0_RULES v3_0_RULES,x_ [A] u4_RULES v4_RULES (by simp),cH u4_0_RULES v4_0_RULES⟩,⟨⟨_,_,_,PySem.F.excBase_ValueError,x_e0⟩,⟨_,_,_,PySem.F.excBase_ValueError,x_e1⟩,⟨_,_,_,PySem.F.excBase_ValueError,x_e2⟩,⟨_,_,_,PySem.F.excBase_ValueError,x_e3⟩,x_x0,⟨x_c01,x_c02,x_c03,x_c04,x_c05,x_c06⟩,x_s0,x_v0,x_k0_0,x_k0_1,x_k0_2,x_k0_3,x_a0,⟨x_c11,x_c12,x_c13,x_c14,x_c15,x_c16⟩,x_s1,x_v1,x_k1_0,x_k1_1,x_k1_2,x_k1_3,x_a1,⟨x_c21,x_c22,x_c23,x_c24,x_c25,x_c26⟩,x_s2,x_v2,x_k2_0,x_k2_1,x_k2_2,x_k2_3,x_a2⟩⟩⟩
theorem fin{l:PySem.W.OpenLaw}{w:World}{K:PySem.W.Frag}{mg:Str->Option Value}{t:xV}{fa c1 T1 c2 T2:Addr}{h:Heap}(KX:K.In h)(G:h.Ns mainGlobals mg)(h1:PySem.W.tabIn K "raised"=some (c1,T1))(h2:PySem.W.codeHdIn K c1 T1=true)(h3:PySem.W.tabIn K "put_in"=some (c2,T2))(h4:PySem.W.codeHdIn K c2 T2=true)(T:Txt K mg t)(x:mg "law"=some (.ref fa)):∃fd:FuncData,(∀(s:Shared)(v:Value),BindsTo s fd ⟨[v],[]⟩ [("_law_script",v)])/\∀base:Heap,oD l.prog w K mg base bF 193 fa fd ["_law_script"] (IT K T1 T2):=by
 obtain⟨f,fd,F,m,b⟩:=T.abO;have e:=x.symm.trans m;cases e;refine⟨fd,?_,λbase=>?_⟩;·obtain⟨oc,od,kV,doc,pm,an,cZ,ct,DA,rfl,Z,Y⟩:=F.ex;exactλs v=> .of_eq rfl
 obtain⟨as,q⟩:=T.GL;have c1:=Hl (P:=l.prog) (w:=w) T.GF T.M;have c2:=EA (P:=l.prog) (w:=w) T.Eu T.M;have r:=FR T.GN T.M c1 c2;have u:=Gj T.Hc T.M c1;obtain⟨i,ct⟩:=VY T.FZ T.GP T.L_ T.F2 T.GD T.Bh T.Bv T.EY T.M c1 u 7;have k1:=GS (P:=l.prog) (w:=w) T.FT T.M;have k2:=gC T.j_ T.M k1 20;have k3:=qI T.pG T.M k2;have y:=DV T.D5 T.M c1 i ct k3;have z:=Ho T.GJ T.M c1 i ct;have A:=Fx (P:=l.prog) (w:=w) T.F3 T.M;have c:=FE T.GV T.M A k1;have j:=gC T.j_ T.M k1 41;have I:=qI T.pG T.M j;have O:=zC T.zD T.M c1;have Q:=Ee T.ED T.M c1 O j I;have J:=C4 (P:=l.prog) (w:=w) T.DS T.M;have a:=ME (P:=l.prog) (w:=w) T.Mm T.M;have k:=FW (P:=l.prog) (w:=w) T.G0 T.M q T.zH;have o:=Po T.Qn T.M T.X.e1 a J;have p5:=Gn T.F5 T.M o;have R:=j3 T.w8 T.M a 100;have S:=LY (P:=l.prog) (w:=w) T.Mp T.M;have p:=LH T.LX T.M T.X.e0 S R;have g:=MQ (P:=l.prog) (w:=w) T.Ml T.M;have L:=oh T.CS T.M o a g 100;have M:=Mc (n:=100) T.Mf T.M (by decide) L p;have U:=j1 (kc:=1) T.qz T.M a k g 58;have V:=P5 (Rf T.N5 KX G h1 h2) T.M U;have W:=j1 (kc:=64) T.qz T.M a k g 58;have X:=NL (Rf T.Ro KX G h3 h4) T.M V W p;have s1:=ML (P:=l.prog) (w:=w) T.MA T.M T.T_;have s0:=AR (P:=l.prog) (w:=w) T.B_ T.M;have s2:=CD T.BM T.M X s0;have d:=MN T.MH T.M T.X.e2 p5 s1 M s2;have N:=TC T.Rq T.M T.X.e2 p5 s1 d;have w1:=FI (P:=l.prog) (w:=w) T.FF T.M;have B:=G_ T.GQ T.M T.X N w1;have C:=LF T.Mx T.M T.X c1 c d;have D:=DQ (P:=l.prog) (w:=w) T.D_ T.M;have E:=AX T.BF T.M c1;have H:=MK T.LM T.M T.X c d;exact acD F T.M c1 r z y Q C D c E H B
theorem walk{l:PySem.W.OpenLaw}{q:Program}{loose:List Str}{XP:(Str->Option Value)->Heap->Prop}{YP:World->Heap->Prop}{d:DefRec}{K:Params->PySem.W.Frag}{c1 T1 c2 T2:Addr}(hn:l.most=some 63)(i:d.params.defaults=[])(g:∀(w:World)(h:Heap),YP w h->(K w.params).In h)(h2:∀w:World,PySem.W.codeHdIn (K w.params) c1 T1=true)(h3:∀w:World,(K w.params).lookup T1=none)(h4:∀(w:World)(h:Heap),YP w h->h.get? T1=some (PySem.W.tabObj #[]))(h5:∀w:World,PySem.W.codeHdIn (K w.params) c2 T2=true)(h6:∀w:World,(K w.params).lookup T2=none)(c:∀(w:World)(h:Heap),YP w h->h.get? T2=some (PySem.W.tabObj #[]))(j:T1≠T2)(F:∀(w:World)(mg:Str->Option Value)(fa:Addr)(h:Heap),(K w.params).In h->h.Ns mainGlobals mg->mg d.name=some (.ref fa)->∃fd:FuncData,(∀(s:Shared)(u:Value),BindsTo s fd ⟨[u],[]⟩ [("_law_script",u)])/\∀base:Heap,oD l.prog w (K w.params) mg base bF 193 fa fd ["_law_script"] (IT (K w.params) T1 T2)):PySem.W.WalkO q loose XP YP l.row.toRowW d [] (λf vs=>PySem.call f vs):=by
 refine Rg (ts:=[(c1,T1, .tab Dh (rawInt Fg.line) (rawInt Fg.col)),(c2,T2, .tab AD (rawInt Ar.line) (rawInt Ar.col))]) (n:=63) (k:=193) (x:="_law_script") (sp:=λw=>IT (K w.params) T1 T2) hn (by decide) i ⟨by decide,by decide,λ_=>rfl⟩ g (λw h Y=>⟨λq hq=>?_,λq hq=>?_,λq hq=>?_,λq hq=>?_⟩) F λw H a ns hl b e=>⟨a,ns,rfl,e,hl,⟨b (c1,T1, .tab Dh (rawInt Fg.line) (rawInt Fg.col)) (by simp) (by simp[List.lookup]),b (c2,T2, .tab AD (rawInt Ar.line) (rawInt Ar.col)) (by simp) ?_⟩,λ_=>rfl⟩
 ·rcases List.mem_cons.mp hq with rfl|hq;·exact h4 w h Y
  ·obtain rfl:=List.mem_singleton.mp hq;exact c w h Y
 ·rcases List.mem_cons.mp hq with rfl|hq;·exact h2 w
  ·obtain rfl:=List.mem_singleton.mp hq;exact h5 w
 ·rcases List.mem_cons.mp hq with rfl|hq;·exact h3 w
  ·obtain rfl:=List.mem_singleton.mp hq;exact h6 w
 ·rcases List.mem_cons.mp hq with rfl|hq;·exact⟨_,_,_,rfl⟩
  ·obtain rfl:=List.mem_singleton.mp hq;exact⟨_,_,_,rfl⟩
 ·have :(T2==T1)=false:=by simpa usingλz:T2=T1=>j z.symm
  simp[List.lookup,this]
end K24
end
section
namespace HD
open PySem PySem.W PySem.Calls PyProof.Rows
noncomputable def CV{a:Type}:List a->List a×List a|[]=>([],[])|x::r=>(x::(CV r).2,(CV r).1)
noncomputable def ZL:Nat->List Obj->BT|0,_=> .nil|_+1,[]=> .nil|n+1,x::r=> .node x (ZL n (CV r).1) (ZL n (CV r).2)
noncomputable def mkT(l:List Obj):BT:=ZL 14 l
noncomputable def i(n:Nat):Value:= .int (.ofNat n) 0
noncomputable def view(p:Program)(l:List Stmt):Program:={p with main:={p.main with body:=l}}
noncomputable abbrev iV(a:Type):Type:=World->(OsState->a)×(OsState->a)
def Ok{a:Type}(q:iV a):Prop:=∀w,(q w).1=(q w).2
theorem iW{b:Type}{q a:iV b}(e:q=a)(h:∀w,(a w).1=(a w).2):Ok q:=by subst e;exact h
theorem LV{e:Type}{q a b:iV e}(r:String)(c:(λw=>q (w.withFollow r false))=a)(d:(λw=>q (w.withFollow r true))=b)(hf:∀w,(a w).1=(a w).2)(ht:∀w,(b w).1=(b w).2):Ok q:=by subst c d;exactλw=>byRow2 r (P:=λw=>(q w).1=(q w).2) hf ht w
section
variable(p:Program)(m:Nat)(ann:Option Value)
noncomputable def pre(n:Nat)(S a:World->OsState->Shared)(t t':Thread):iV (Option (Shared×Thread)):=λw=>(λos=>topGo treeTable p w m ann n (S w os) t,λos=>some (a w os,t'))
noncomputable def blk(n:Nat)(S:World->OsState->Shared)(a:World->OsState->SharedT)(b:List Stmt)(env:Env)(c:Code)(d e:Pos)(B:List Frame):iV (Option (Flow×Shared×Code×Pos)):=λw=>(λos=>segRun treeTable p w m ann 1 n (S w os) (blockOf b env c d B),λos=>some (Flow.next,(a w os).abs,c,e))
noncomputable def seg(n:Nat)(S a:World->OsState->SharedT)(l:List Stmt)(env:Env)(c:Code)(b d:Pos)(B:List Frame):iV (Option (Flow×SharedT×Code×Pos)):=λw=>(λos=>segRunT treeTable p w m ann 1 n (S w os) (piecesOf l env c b B),λos=>some (Flow.next,a w os,c,d))
noncomputable def fin(n:Nat)(S:World->OsState->SharedT)(a:World->OsState->Shared)(t:Thread):iV (Option Shared):=λw=>(λos=>topRun treeTable p w m ann n (S w os).abs t,λos=>some (a w os))
variable{p:Program}{m:Nat}{ann:Option Value}
def Goes(p:Program)(m:Nat)(ann:Option Value)(R:World->OsState->Shared)(n:Nat)(S:World->OsState->Shared)(t:Thread):Prop:=∀w os,topRun treeTable p w m ann n (S w os) t=some (R w os)
noncomputable def SS(S:World->OsState->SharedT):World->OsState->Shared:=λw os=>(S w os).abs
theorem adq{n:Nat}{S:World->OsState->SharedT}{R:World->OsState->Shared}{env:Env}{c:Code}{a q:Pos}(h:Ok (fin p m ann n S R ⟨doneF .next,c,a,[topFrame q]⟩)):Goes p m ann R n (SS S) (restOf [] env c a [topFrame q]):=λw os=>piece_nil (congrFun (h w) os)
theorem eC{n N:Nat}{S a:World->OsState->SharedT}{R:World->OsState->Shared}{l rest:List Stmt}{env:Env}{c:Code}{b d q:Pos}(h:Ok (seg p m ann n S a l env c b d [topFrame q]))(k:Goes p m ann R N (SS a) (restOf rest env c d [topFrame q])):Goes p m ann R (n+N) (SS S) (restOf (l++rest) env c b [topFrame q]):=λw os=>piece_app (segRun_of (congrFun (h w) os)) (k w os)
theorem aaT{n N:Nat}{S:World->OsState->Shared}{a:World->OsState->SharedT}{R:World->OsState->Shared}{b b':List Stmt}{env:Env}{c d q:Pos}(e:b=b')(h:Ok (blk p m ann n S a b env (.body b env) c d [topFrame q]))(k:Goes p m ann R N (SS a) (restOf b' env (.body b env) d [topFrame q])):Goes p m ann R (n+N) S ⟨denote treeTable (.body b env), .body b env,c,[topFrame q]⟩:=λw os=>by subst e;exact piece_block (congrFun (h w) os) (k w os)
theorem abH{n N:Nat}{S a R:World->OsState->Shared}{t t':Thread}(h:Ok (pre p m ann n S a t t'))(k:Goes p m ann R N a t'):Goes p m ann R (n+N) S t:=λw os=>go_top (congrFun (h w) os) (k w os)
end
noncomputable def sz(m:Nat)(a:Option Value):iV (Bool×Nat×Option Value):=λw=>(λ_=>((boot_heap w.params).isNs mainGlobals&&(Array.mk []:Array GenState).size==0,(boot_heap w.params).objs.size,(boot_heap w.params).nsMap mainGlobals "__annotations__"),λ_=>(true,m,a))
noncomputable def mkS(H:Params->Heap)(d:Drawn)(k:Nat):World->OsState->Shared:=λw os=>⟨H w.params,Array.mk [],d,k,os⟩
noncomputable def la(p:Program)(H₁:Params->Heap)(d:Drawn)(k:Nat):iV Bool:=λw=>(λos=>(staticsOk (importedModules p.main.body) (boot_heap w.params) (H₁ w.params)&&namesBound p (H₁ w.params)&&gensDone ⟨H₁ w.params,Array.mk [],d,k,os⟩&&laidKept (boot_heap w.params) (H₁ w.params)),λ_=>true)
noncomputable def lb(p q:Program)(loose:List Str)(Xt:Shared->Bool)(H₁:Params->Heap)(d:Drawn)(k:Nat):=λ(w:World)=>((λ(os:OsState)=>openSeen q loose (importedModules p.main.body) Xt true ⟨H₁ w.params,Array.mk [],d,k,os⟩),(λ(_:OsState)=>openGood q loose))
noncomputable def lc(H:Hook)(H₁:Params->Heap)(d:Drawn)(k:Nat):iV H.α:=λw=>(λos=>H.obs ⟨H₁ w.params,Array.mk [],d,k,os⟩,λ_=>H.val w)
theorem left{p q:Program}{loose:List Str}{Xt:Shared->Bool}{H:Hook}{N m M:Nat}{a:Option Value}{H₁:Params->Heap}{d:Drawn}{k:Nat}(e:opening p=plainProg p.main.scope.names)(b:Nat.ble 600 N=true)(f:∀s,fenceModules? p s=some s)(size:Ok (sz m a))(run:Goes p m a (mkS H₁ d k) M (mkS boot_heap boot_drawn boot_toks) (topStub p))(le:Nat.ble M N=true)(ha:Ok (la p H₁ d k))(hb:Ok (lb p q loose Xt H₁ d k))(hc:Ok (lc H H₁ d k)):LeftO p q loose Xt H.obs H.val N:=LeftO.of_pieces (H₀:=boot_heap) (H₁:=H₁) (boot_open e b f) (λw=>congrFun (size w) default) run le λw=>funext λos=>looks_pair (congrFun (ha w) os) (looks_pair (congrFun (hb w) os) (congrFun (hc w) os))
noncomputable def tp(l:List Value):Obj:=⟨.type "tuple",none, .seq l.toArray 0,#[]⟩
noncomputable def fl(l:List Value):Obj:=⟨.none,none, .fields l.toArray,#[]⟩
noncomputable def e(P:Params)(x:Str)(n:Nat)(v:Value):DictEntry:=⟨PyData.keyHash P x, .str x n,v⟩
noncomputable def dc(l:List DictEntry)(n:Nat):Obj:=⟨.type "dict",none, .dict l.toArray n,#[]⟩
noncomputable def dm(o:Obj)(l:List DictEntry)(n:Nat):Obj:=match o.data with| .dict a _=>dc (a.toList++l) n|_=>o
noncomputable def fa(o:Obj)(l:List Value):Obj:=match o.data with| .fields a=>fl (a.toList++l)|_=>o
noncomputable abbrev F4:Type:=Option (Flow×SharedT×Code×Pos)
noncomputable def cd(n q f:Str)(a b c:Nat)(k1 k2 k3 e g r:Nat)(t:Bool)(m s:Nat)(v1 v2 h j:Value)(y z d:Nat):Obj:=⟨.type "code",none, .fields #[.str n a, .str q b, .str f c,i k1,i k2,i k3,i e,i g, .ref r, .bool t,i m, .ref s,v1,v2,h,j,i y,i z, .str f d],#[]⟩
noncomputable def fs(n q:Str)(s:Stmt):Obj:=⟨.none,none, .func ⟨n,q,L2.gq s, .stmts (L2.cU s),L2.ar s,0,[], .none, .none, .none, .none,none, .none, .none,0⟩,#[]⟩
noncomputable def fu(n q:Str)(s:Stmt)(m:Str)(k c:Nat):Obj:=⟨.type "function",none, .func ⟨n,q,L2.gq s, .stmts (L2.cU s),L2.ar s,3,[], .none, .none, .none, .str m k,none, .ref c, .none,0⟩,#[]⟩
noncomputable def fm(a b c:Nat)(m:Str)(k:Nat):Obj:=⟨.type "frame",none, .plain,#[some (.ref a),some (.ref b),some (.ref c),none,some (.str m k),none,some (.ref 0)]⟩
noncomputable def bm(v w:Value):Obj:=⟨.type "builtin_function_or_method",none, .fields #[v,w],#[]⟩
noncomputable def su(a:Nat):Obj:=⟨.type "super",none, .fields #[.ref a, .ref a, .ref a],#[]⟩
noncomputable def cl(n:Str)(b m:List Value)(d:Nat)(s:List Value)(t k j:Nat)(v:Value):Obj:=⟨.type "type",none, .cls ⟨n,b,m,d,n,true,[],s,false,none,false⟩,#[some (.ref t),none,some (.str n k),some (.str n j),some v,some (.bool true)]⟩
noncomputable def sb(o:Obj)(l:List Value):Obj:=match o with|⟨c,d, .cls x,t⟩=>⟨c,d, .cls {x with subclasses:=x.subclasses++l},t⟩|_=>o
noncomputable def iy(l:List Obj):BT->Nat->BT:=@List.rec Obj (λ_=>BT->Nat->BT) (λt _=>t) (λo _ b t a=>b (t.ins a o) (Nat.succ a)) l
end HD
end
section
namespace K24
open PySem PySem.W PySem.Calls PyProof.Rows
noncomputable abbrev pw:Program:=PySem.Challenge.pw_keeper_k24_walked
noncomputable def ht(i:Nat):Stmt:=pw.main.body.getD i (.Pass ⟨0,0,0,0⟩)
noncomputable def Zx0:Str:= .ofString "__name__"
noncomputable def Aa:Str:= .ofString "__doc__"
noncomputable def Zx3:Str:= .ofString "__package__"
noncomputable def Zx4:Str:= .ofString "__loader__"
noncomputable def Zx5:Str:= .ofString "__spec__"
noncomputable def Zx9:Str:= .ofString "all"
noncomputable def Ye:Str:= .ofString "next"
noncomputable def VF:Str:= .ofString "__main__"
noncomputable def Dj:Str:= .ofString "__annotations__"
noncomputable def EU:Str:= .ofString "__builtins__"
noncomputable def C6:Str:= .ofString "__file__"
noncomputable def aV:Str:= .ofString "/claim/cut.py"
noncomputable def Dq:Str:= .ofString "__cached__"
noncomputable def VT:Str:= .ofString "<module>"
noncomputable def ku:Str:= .ofString "_wall"
noncomputable def acE:Str:= .ofString "k"
noncomputable def bo:Str:= .ofString "keeper.errors"
noncomputable def mY:Str:= .ofString "KeeperError"
noncomputable def cR:Str:= .ofString "__module__"
noncomputable def gD:Str:= .ofString "__qualname__"
noncomputable def cT:Str:= .ofString "__firstlineno__"
noncomputable def aX:Str:= .ofString "small_name"
noncomputable def cQ:Str:= .ofString "__static_attributes__"
noncomputable def gW:Str:= .ofString "self"
noncomputable def RX:Str:= .ofString "KeeperError.small_name"
noncomputable def Vt:Str:= .ofString "__weakref__"
noncomputable def nN:Str:= .ofString "Great"
noncomputable def Pm:Str:= .ofString "Great.small_name"
noncomputable def nG:Str:= .ofString "NoPlace"
noncomputable def Pd:Str:= .ofString "NoPlace.small_name"
noncomputable def mX:Str:= .ofString "NoStep"
noncomputable def P9:Str:= .ofString "NoStep.small_name"
noncomputable def ou:Str:= .ofString "Dry"
noncomputable def Rj:Str:= .ofString "Dry.small_name"
noncomputable def mw:Str:= .ofString "NoVariable"
noncomputable def OK:Str:= .ofString "NoVariable.small_name"
noncomputable def nB:Str:= .ofString "NoName"
noncomputable def QE:Str:= .ofString "NoName.small_name"
noncomputable def m5:Str:= .ofString "NotAll"
noncomputable def Qa:Str:= .ofString "NotAll.small_name"
noncomputable def og:Str:= .ofString "NotSome"
noncomputable def RK:Str:= .ofString "NotSome.small_name"
noncomputable def oj:Str:= .ofString "NotSame"
noncomputable def NU:Str:= .ofString "NotSame.small_name"
noncomputable def mP:Str:= .ofString "Unlike"
noncomputable def OB:Str:= .ofString "Unlike.small_name"
noncomputable def nV:Str:= .ofString "NoText"
noncomputable def Q4:Str:= .ofString "NoText.small_name"
noncomputable def nW:Str:= .ofString "NoWord"
noncomputable def Pt:Str:= .ofString "NoWord.small_name"
noncomputable def mR:Str:= .ofString "TwiceTold"
noncomputable def P8:Str:= .ofString "TwiceTold.small_name"
noncomputable def p8:Str:= .ofString "NotClosed"
noncomputable def RW:Str:= .ofString "NotClosed.small_name"
noncomputable def pR:Str:= .ofString "keeper.things"
noncomputable def Lc:Str:= .ofString "MOST_KNOTS"
noncomputable def IE:Str:= .ofString "MOST_DEEP"
noncomputable def K9:Str:= .ofString "MOST_VARIABLE"
noncomputable def Iq:Str:= .ofString "KIDS_DUE"
noncomputable def adj:Str:= .ofString "nat"
noncomputable def acS:Str:= .ofString "none"
noncomputable def Wy:Str:= .ofString "some"
noncomputable def acf:Str:= .ofString "same"
noncomputable def aaB:Str:= .ofString "var"
noncomputable def HF:Str:= .ofString "fun"
noncomputable def VA:Str:= .ofString "app"
noncomputable def PM:Str:= .ofString "zero"
noncomputable def O4:Str:= .ofString "rec"
noncomputable def Rx:Str:= .ofString "like"
noncomputable def NA:Str:= .ofString "carry"
noncomputable def abj:Str:= .ofString "never"
noncomputable def Qo:Str:= .ofString "pair"
noncomputable def Qr:Str:= .ofString "first"
noncomputable def Q2:Str:= .ofString "second"
noncomputable def Wz:Str:= .ofString "name"
noncomputable def ko:Str:= .ofString "kind"
noncomputable def fP:Str:= .ofString "term"
noncomputable def OW:Str:= .ofString "BINDER_OVER"
noncomputable def nK:Str:= .ofString "is_number"
noncomputable def abR:Str:= .ofString "value"
noncomputable def nu:Str:= .ofString "is_vast"
noncomputable def nE:Str:= .ofString "kids_of"
noncomputable def ib:Str:= .ofString "thing"
noncomputable def mS:Str:= .ofString "binds_of"
noncomputable def ny:Str:= .ofString "top_variable"
noncomputable def n6:Str:= .ofString "bounded"
noncomputable def nU:Str:= .ofString "rebuilt"
noncomputable def OA:Str:= .ofString "kids"
noncomputable def Dw:Str:= .ofString "keeper.places"
noncomputable def nD:Str:= .ofString "kid_at"
noncomputable def P7:Str:= .ofString "number"
noncomputable def mr:Str:= .ofString "at_place"
noncomputable def DL:Str:= .ofString "place"
noncomputable def RB:Str:= .ofString "here"
noncomputable def m8:Str:= .ofString "changed_at"
noncomputable def Wx:Str:= .ofString "new"
noncomputable def adf:Str:= .ofString "kid"
noncomputable def pN:Str:= .ofString "with_at"
noncomputable def Np:Str:= .ofString "keeper.putting"
noncomputable def qh:Str:= .ofString "with_free"
noncomputable def pS:Str:= .ofString "raised"
noncomputable def UU:Str:= .ofString "by"
noncomputable def VS:Str:= .ofString "low"
noncomputable def VB:Str:= .ofString "change"
noncomputable def qG:Str:= .ofString "put_in"
noncomputable def UY:Str:= .ofString "other"
noncomputable def UN:Str:= .ofString "at"
noncomputable def JU:Str:= .ofString "keeper.steps"
noncomputable def WM:Str:= .ofString "RULES"
noncomputable def pZ:Str:= .ofString "rule_of"
noncomputable def HR:Str:= .ofString "book"
noncomputable def aaz:Str:= .ofString "part"
noncomputable def ab4:Str:= .ofString "word"
noncomputable def Ju:Str:= .ofString "rule"
noncomputable def qH:Str:= .ofString "after_next"
noncomputable def qd:Str:= .ofString "after_rule"
noncomputable def qm:Str:= .ofString "stepped"
noncomputable def U9:Str:= .ofString "keeper.normal"
noncomputable def yi:Str:= .ofString "walked"
noncomputable def aaR:Str:= .ofString "log"
noncomputable def cY:Str:= .ofString "law_keeper_k24_walked"
noncomputable def xT:Str:= .ofString "_law_draw"
noncomputable def gc:Str:= .ofString "_law_script"
noncomputable def f_:Str:= .ofString "_law_tape"
noncomputable def Lo:Str:= .ofString "_law_many"
noncomputable def abq:Str:= .ofString "_law_seed"
noncomputable def acI:Str:= .ofString "_law_cell"
noncomputable def yN:Str:= .ofString "_law_named"
noncomputable def Fc:Str:= .ofString "_law_word_here"
noncomputable def xF:Str:= .ofString "_law_pool"
noncomputable def xa:Str:= .ofString "_law_leaf"
noncomputable def lI:Str:= .ofString "_law_near"
noncomputable def jN:Str:= .ofString "_law_pool_here"
noncomputable def yT:Str:= .ofString "_law_way"
noncomputable def xt:Str:= .ofString "_law_kind"
noncomputable def lH:Str:= .ofString "_law_deep"
noncomputable def Nt:Str:= .ofString "_law_first"
noncomputable def Ah:Str:= .ofString "_law_kind_here"
noncomputable def yJ:Str:= .ofString "_law_fun"
noncomputable def xx:Str:= .ofString "_law_pair"
noncomputable def xS:Str:= .ofString "_law_like"
noncomputable def yK:Str:= .ofString "_law_number"
noncomputable def xn:Str:= .ofString "_law_parted"
noncomputable def adp:Str:= .ofString "_law_second"
noncomputable def yB:Str:= .ofString "_law_still"
noncomputable def abu:Str:= .ofString "_law_one"
noncomputable def aaC:Str:= .ofString "_law_two"
noncomputable def acG:Str:= .ofString "_law_three"
noncomputable def y_:Str:= .ofString "_law_term"
noncomputable def yQ:Str:= .ofString "_law_kids"
noncomputable def oq:Str:= .ofString "_law_thing_here"
noncomputable def xl:Str:= .ofString "_law_measured"
noncomputable def aaQ:Str:= .ofString "_law_knots"
noncomputable def abW:Str:= .ofString "_law_most"
noncomputable def acA:Str:= .ofString "_law_kid"
noncomputable def VR:Str:= .ofString "_law_told_here"
noncomputable def yc:Str:= .ofString "_law_great"
noncomputable def xP:Str:= .ofString "_law_thing"
noncomputable def abi:Str:= .ofString "_law_made"
noncomputable def ye:Str:= .ofString "_law_book"
noncomputable def zR:Str:= .ofString "_law_book_here"
noncomputable def Nl:Str:= .ofString "_law_k"
noncomputable def y0:Str:= .ofString "_law_rule"
noncomputable def acJ:Str:= .ofString "_law_heads"
noncomputable def zb:Str:= .ofString "_law_rows"
noncomputable def QC:Str:= .ofString "_law_found"
noncomputable def acp:Str:= .ofString "_law_waiting"
noncomputable def acC:Str:= .ofString "_law_place"
noncomputable def ac_:Str:= .ofString "_law_here"
noncomputable def aci:Str:= .ofString "_law_kids_here"
noncomputable def aba:Str:= .ofString "_law_step"
noncomputable def ach:Str:= .ofString "_law_number_here"
noncomputable def xC:Str:= .ofString "_law_word"
noncomputable def VX:Str:= .ofString "_law_e"
noncomputable def abh:Str:= .ofString "_law_later"
noncomputable def yG:Str:= .ofString "_law_chain"
noncomputable def adi:Str:= .ofString "_law_letters"
noncomputable def acB:Str:= .ofString "_law_after"
noncomputable def yZ:Str:= .ofString "_law_wrapped"
noncomputable def xQ:Str:= .ofString "_law_under"
noncomputable def yz:Str:= .ofString "_law_log"
noncomputable def yP:Str:= .ofString "_law_spoilt"
noncomputable def NQ:Str:= .ofString "_law_log_here"
noncomputable def acq:Str:= .ofString "_law_rows_here"
noncomputable def ada:Str:= .ofString "_law_at"
noncomputable def abP:Str:= .ofString "_law_words"
noncomputable def aa0:Str:= .ofString "_law_other"
noncomputable def acs:Str:= .ofString "_law_row"
noncomputable def w_:Str:= .ofString "_law_due"
noncomputable def yX:Str:= .ofString "_law_told"
noncomputable def xh:Str:= .ofString "law"
noncomputable def ads:Str:= .ofString "_law_due_here"
noncomputable def aco:Str:= .ofString "_law_handed"
noncomputable def acF:Str:= .ofString "_law_short"
variable(P:Params)
noncomputable def dN:Env:={scope:=pw.main.scope,locals:=mainNs,globals:=mainNs,cells:=[],code:=(.ref 13),frame:=some (nat_lit 14)}
noncomputable def cB:Code:= .body (behindTheImports pw) dN
noncomputable def dF:List Frame:=[topFrame ⟨0,0,0,0⟩]
noncomputable abbrev ZS0:World->OsState->Shared:=HD.mkS boot_heap boot_drawn boot_toks
def af:=HD.tp []
def aD:=HD.fl []
def O1:=HD.cd VT VT aV 182 183 184 1 0 0 0 0 11 false 181 12 .none .none .none .none 185 1 186
def QI:=HD.fm 13 3 3 VF 164
noncomputable def abc(r:List (Obj)):List (Obj):=PySem.W.boot_o_0 P::PySem.W.boot_o_1 P::PySem.W.boot_o_2 P::PySem.W.boot_o_3 P::PySem.W.boot_o_4 P::PySem.W.boot_o_5 P::PySem.W.boot_o_6 P::PySem.W.boot_o_7 P::PySem.W.boot_o_8 P::PySem.W.boot_o_9 P::PySem.W.boot_o_10 P::af::r
noncomputable def aaP(r:List (Obj)):List (Obj):=aD::O1::QI::r
noncomputable def ZHa(P:Params):Heap:=⟨Array.mk (abc P (aaP [])),⟨[],[],[],0,[],[],false,#[],[],0,false,false,false,(.ofNat 0),[(.ofNat 2000),(.ofNat 10),(.ofNat 10)],false,0,true,[],[],0,false⟩⟩
noncomputable def Zda:Drawn:=⟨0,0,0,0⟩
noncomputable def Zka:Nat:=nat_lit 187
noncomputable abbrev ZSa:World->OsState->Shared:=HD.mkS ZHa Zda Zka
noncomputable def Zqa:HD.iV (Option (Shared×Thread)):=λw=>(λos=>topGo treeTable pw w (nat_lit 11) (some (.ref 6)) (nat_lit 12) (ZS0 w os) (topStub pw),λos=>some (ZSa w os,Thread.mk (denote treeTable cB) cB ⟨0,0,0,0⟩ dF))
theorem Xl:HD.pre pw (nat_lit 11) (some (.ref 6)) (nat_lit 12) ZS0 ZSa (topStub pw) (Thread.mk (denote treeTable cB) cB ⟨0,0,0,0⟩ dF)=Zqa:=by kernel_rfl
name_quick U1 for Zqa by Xl
theorem Zia(w:World):(Fast.U1 w).1=(Fast.U1 w).2:=by kernel_rfl
theorem Zha:HD.Ok (HD.pre pw (nat_lit 11) (some (.ref 6)) (nat_lit 12) ZS0 ZSa (topStub pw) (Thread.mk (denote treeTable cB) cB ⟨0,0,0,0⟩ dF)):=HD.iW Fast.U1_eq Zia
noncomputable def acw(r:List (Obj)):List (Obj):=PySem.W.boot_o_0 P::PySem.W.boot_o_1 P::PySem.W.boot_o_2 P::PySem.W.boot_o_3 P::PySem.W.boot_o_4 P::PySem.W.boot_o_5 P::PySem.W.boot_o_6 P::PySem.W.boot_o_7 P::PySem.W.boot_o_8 P::PySem.W.boot_o_9 P::PySem.W.boot_o_10 P::af::r
noncomputable def ab0(r:List (Obj)):List (Obj):=aD::O1::QI::r
noncomputable def ZTb(P:Params):BT:=HD.mkT (acw P (ab0 []))
noncomputable def gZ:Life:=⟨[],[],[],0,[],[],false,#[],[],0,false,false,false,(.ofNat 0),[(.ofNat 2000),(.ofNat 10),(.ofNat 10)],false,0,true,[],[],0,false⟩
noncomputable abbrev ZSb(w:World)(os:OsState):SharedT:=⟨ZTb w.params,nat_lit 15,gZ,Array.mk [],⟨0,0,0,0⟩,nat_lit 187,os⟩
noncomputable def Zqb:HD.iV (Option (Flow×Shared×Code×Pos)):=λw=>(λos=>segRun treeTable pw w (nat_lit 11) (some (.ref 6)) (nat_lit 1) (nat_lit 1) (ZSa w os) (blockOf (behindTheImports pw) dN cB ⟨0,0,0,0⟩ dF),λos=>some (Flow.next,(ZSb w os).abs,cB,⟨0,0,0,0⟩))
theorem Z4:HD.blk pw (nat_lit 11) (some (.ref 6)) (nat_lit 1) ZSa ZSb (behindTheImports pw) dN cB ⟨0,0,0,0⟩ ⟨0,0,0,0⟩ dF=Zqb:=by kernel_rfl
name_quick Wd for Zqb by Z4
theorem Zib(w:World):(Fast.Wd w).1=(Fast.Wd w).2:=by kernel_rfl
theorem Zhb:HD.Ok (HD.blk pw (nat_lit 11) (some (.ref 6)) (nat_lit 1) ZSa ZSb (behindTheImports pw) dN cB ⟨0,0,0,0⟩ ⟨0,0,0,0⟩ dF):=HD.iW Fast.Wd_eq Zib
def acT:=HD.dc [HD.e P Zx0 165 (.str bo 194),HD.e P Aa 166 .none,HD.e P Zx3 167 .none,HD.e P Zx4 168 (.builtin "__main__.__loader__#opaque"),HD.e P Zx5 169 .none,HD.e P Dj 170 (.ref 6),HD.e P EU 171 (.ref 4),HD.e P C6 173 (.str aV 172),HD.e P Dq 174 .none,HD.e P ku 193 (.ref 21),HD.e P mY 220 (.ref 38)] 11
def Vi:=HD.fl [(HD.i 1),(HD.i 0),(.ref 20),(HD.i 5),(HD.i 0),(.ref 27)]
def J5:=HD.tp [(.str acE 190)]
def UM:=HD.fs ku ku (ht 0)
def HV:=HD.cd ku ku aV 187 188 189 1 1 0 0 3 15 true 181 16 .none (.ref 17) (.ref 18) (.ref 19) 191 1 192
def IZ:=HD.fu ku ku (ht 0) VF 164 20
def Hz:=HD.tp [(.type "ValueError")]
def cS:=HD.bm (.builtin "type.__prepare__") (.type "type")
def U3:=HD.dc [HD.e P cR 203 (.str bo 194),HD.e P gD 205 (.str mY 204),HD.e P cT 207 (.int (.ofNat 5) 206),HD.e P aX 214 (.ref 35),HD.e P cQ 215 (.ref 36)] 5
def Wq:=HD.fl [(HD.i 7),(HD.i 4),(.ref 34)]
def Wa:=HD.cd mY mY aV 198 199 200 5 0 0 0 0 25 false 181 26 .none .none .none .none 201 5 202
def Vg:=HD.fm 27 3 24 bo 194
def JH:=HD.tp [(.str gW 211)]
def US:=HD.fs aX RX (L2.inClass (ht 2) 0)
def JF:=HD.cd aX RX aV 208 209 210 7 1 0 0 3 29 true 181 30 .none (.ref 31) (.ref 32) (.ref 33) 212 7 213
def KC:=HD.fu aX RX (L2.inClass (ht 2) 0) bo 194 34
def Kx:=HD.dc [HD.e P cR 203 (.str bo 194),HD.e P cT 207 (.int (.ofNat 5) 206),HD.e P aX 214 (.ref 35),HD.e P cQ 215 (.ref 36),HD.e P Vt 217 (.ref 39),HD.e P Aa 218 .none] 3
def VC:=HD.cl mY [(.type "ValueError")] [(.ref 38),(.type "ValueError"),(.type "Exception"),(.type "BaseException"),(.type "object")] 37 [] 22 196 204 (.builtin "ValueError.__new__")
noncomputable def Lf:Obj:=⟨(.type "getset_descriptor"),none,(.fields #[(.str Vt 216),(.ref 38),(.builtin "ExceptionGroup.__weakref__"), .none]),#[]⟩
def Vn:=HD.su 38
def Wc:=HD.bm (.builtin "object.__init_subclass__") (.ref 38)
noncomputable def Zg1:List Stmt:=[ht 0,ht 1,ht 2]
noncomputable def ZT1(P:Params):BT:=(HD.iy [af,aD,J5,af,UM,HV,IZ,Hz,cS,U3 P,af,Wq,Wa,Vg,af,aD,JH,af,US,JF,KC,af,Kx P,VC,Lf,Vn,Wc] (((ZTb P).ins (nat_lit 3) (acT P)).ins (nat_lit 12) (Vi)) (nat_lit 15))
noncomputable abbrev ZS1(w:World)(os:OsState):SharedT:=⟨ZT1 w.params,nat_lit 42,gZ,Array.mk [],⟨0,0,0,0⟩,nat_lit 221,os⟩
noncomputable def Zq1:HD.iV (HD.F4):=λw=>(λos=>segRunT treeTable pw w (nat_lit 11) (some (.ref 6)) (nat_lit 1) (nat_lit 255) (ZSb w os) (piecesOf Zg1 dN cB ⟨0,0,0,0⟩ dF),λos=>some (Flow.next,ZS1 w os,cB,⟨5,0,8,16⟩))
theorem XT:HD.seg pw (nat_lit 11) (some (.ref 6)) (nat_lit 255) ZSb ZS1 Zg1 dN cB ⟨0,0,0,0⟩ ⟨5,0,8,16⟩ dF=Zq1:=by kernel_rfl
name_quick WA for Zq1 by XT
theorem Zi1(w:World):(Fast.WA w).1=(Fast.WA w).2:=by kernel_rfl
theorem Zh1:HD.Ok (HD.seg pw (nat_lit 11) (some (.ref 6)) (nat_lit 255) ZSb ZS1 Zg1 dN cB ⟨0,0,0,0⟩ ⟨5,0,8,16⟩ dF):=HD.iW Fast.WA_eq Zi1
def aa1:=HD.dm (acT P) [HD.e P nN 243 (.ref 58)] 12
def Wu:=HD.fa (Vi) [(HD.i 9),(HD.i 0),(.ref 47)]
def WE:=HD.sb (VC) [(.ref 58)]
def bw:=HD.tp [(.ref 38)]
def U_:=HD.dc [HD.e P cR 228 (.str bo 194),HD.e P gD 230 (.str nN 229),HD.e P cT 232 (.int (.ofNat 9) 231),HD.e P aX 239 (.ref 55),HD.e P cQ 240 (.ref 56)] 5
def Wv:=HD.fl [(HD.i 11),(HD.i 4),(.ref 54)]
def VH:=HD.cd nN nN aV 223 224 225 9 0 0 0 0 45 false 181 46 .none .none .none .none 226 9 227
def V8:=HD.fm 47 3 44 bo 194
def I_:=HD.tp [(.str gW 236)]
def WV:=HD.fs aX Pm (L2.inClass (ht 3) 0)
def Ji:=HD.cd aX Pm aV 233 234 235 11 1 0 0 3 49 true 181 50 .none (.ref 51) (.ref 52) (.ref 53) 237 11 238
def Ia:=HD.fu aX Pm (L2.inClass (ht 3) 0) bo 194 54
def HI:=HD.dc [HD.e P cR 228 (.str bo 194),HD.e P cT 232 (.int (.ofNat 9) 231),HD.e P aX 239 (.ref 55),HD.e P cQ 240 (.ref 56),HD.e P Aa 241 .none] 2
def II:=HD.cl nN [(.ref 38)] [(.ref 58),(.ref 38),(.type "ValueError"),(.type "Exception"),(.type "BaseException"),(.type "object")] 57 [] 42 221 229 (.builtin "ValueError.__new__")
def V4:=HD.su 58
def V5:=HD.bm (.builtin "object.__init_subclass__") (.ref 58)
noncomputable def Zg2:List Stmt:=[ht 3]
noncomputable def ZT2(P:Params):BT:=(HD.iy [bw,cS,U_ P,af,Wv,VH,V8,af,aD,I_,af,WV,Ji,Ia,af,HI P,II,V4,V5] ((((ZT1 P).ins (nat_lit 3) (aa1 P)).ins (nat_lit 12) (Wu)).ins (nat_lit 38) (WE)) (nat_lit 42))
noncomputable abbrev ZS2(w:World)(os:OsState):SharedT:=⟨ZT2 w.params,nat_lit 61,gZ,Array.mk [],⟨0,0,0,0⟩,nat_lit 244,os⟩
noncomputable def Zq2:HD.iV (HD.F4):=λw=>(λos=>segRunT treeTable pw w (nat_lit 11) (some (.ref 6)) (nat_lit 1) (nat_lit 244) (ZS1 w os) (piecesOf Zg2 dN cB ⟨5,0,8,16⟩ dF),λos=>some (Flow.next,ZS2 w os,cB,⟨9,0,12,16⟩))
theorem Z2:HD.seg pw (nat_lit 11) (some (.ref 6)) (nat_lit 244) ZS1 ZS2 Zg2 dN cB ⟨5,0,8,16⟩ ⟨9,0,12,16⟩ dF=Zq2:=by kernel_rfl
name_quick Vo for Zq2 by Z2
theorem Zi2(w:World):(Fast.Vo w).1=(Fast.Vo w).2:=by kernel_rfl
theorem Zh2:HD.Ok (HD.seg pw (nat_lit 11) (some (.ref 6)) (nat_lit 244) ZS1 ZS2 Zg2 dN cB ⟨5,0,8,16⟩ ⟨9,0,12,16⟩ dF):=HD.iW Fast.Vo_eq Zi2
def abB:=HD.dm (aa1 P) [HD.e P nG 266 (.ref 77)] 13
def Vb:=HD.fa (Wu) [(HD.i 13),(HD.i 0),(.ref 66)]
def U4:=HD.sb (WE) [(.ref 77)]
def Wt:=HD.dc [HD.e P cR 251 (.str bo 194),HD.e P gD 253 (.str nG 252),HD.e P cT 255 (.int (.ofNat 13) 254),HD.e P aX 262 (.ref 74),HD.e P cQ 263 (.ref 75)] 5
def WN:=HD.fl [(HD.i 15),(HD.i 4),(.ref 73)]
def UL:=HD.cd nG nG aV 246 247 248 13 0 0 0 0 64 false 181 65 .none .none .none .none 249 13 250
def We:=HD.fm 66 3 63 bo 194
def Kc:=HD.tp [(.str gW 259)]
def VJ:=HD.fs aX Pd (L2.inClass (ht 4) 0)
def Ll:=HD.cd aX Pd aV 256 257 258 15 1 0 0 3 68 true 181 69 .none (.ref 70) (.ref 71) (.ref 72) 260 15 261
def IY:=HD.fu aX Pd (L2.inClass (ht 4) 0) bo 194 73
def JL:=HD.dc [HD.e P cR 251 (.str bo 194),HD.e P cT 255 (.int (.ofNat 13) 254),HD.e P aX 262 (.ref 74),HD.e P cQ 263 (.ref 75),HD.e P Aa 264 .none] 2
def K6:=HD.cl nG [(.ref 38)] [(.ref 77),(.ref 38),(.type "ValueError"),(.type "Exception"),(.type "BaseException"),(.type "object")] 76 [] 61 244 252 (.builtin "ValueError.__new__")
def WJ:=HD.su 77
def U6:=HD.bm (.builtin "object.__init_subclass__") (.ref 77)
noncomputable def Zg3:List Stmt:=[ht 4]
noncomputable def ZT3(P:Params):BT:=(HD.iy [bw,cS,Wt P,af,WN,UL,We,af,aD,Kc,af,VJ,Ll,IY,af,JL P,K6,WJ,U6] ((((ZT2 P).ins (nat_lit 3) (abB P)).ins (nat_lit 12) (Vb)).ins (nat_lit 38) (U4)) (nat_lit 61))
noncomputable abbrev ZS3(w:World)(os:OsState):SharedT:=⟨ZT3 w.params,nat_lit 80,gZ,Array.mk [],⟨0,0,0,0⟩,nat_lit 267,os⟩
noncomputable def Zq3:HD.iV (HD.F4):=λw=>(λos=>segRunT treeTable pw w (nat_lit 11) (some (.ref 6)) (nat_lit 1) (nat_lit 244) (ZS2 w os) (piecesOf Zg3 dN cB ⟨9,0,12,16⟩ dF),λos=>some (Flow.next,ZS3 w os,cB,⟨13,0,16,16⟩))
theorem ZD:HD.seg pw (nat_lit 11) (some (.ref 6)) (nat_lit 244) ZS2 ZS3 Zg3 dN cB ⟨9,0,12,16⟩ ⟨13,0,16,16⟩ dF=Zq3:=by kernel_rfl
name_quick Ws for Zq3 by ZD
theorem Zi3(w:World):(Fast.Ws w).1=(Fast.Ws w).2:=by kernel_rfl
theorem Zh3:HD.Ok (HD.seg pw (nat_lit 11) (some (.ref 6)) (nat_lit 244) ZS2 ZS3 Zg3 dN cB ⟨9,0,12,16⟩ ⟨13,0,16,16⟩ dF):=HD.iW Fast.Ws_eq Zi3
def ab9:=HD.dm (abB P) [HD.e P mX 289 (.ref 96)] 14
def UT:=HD.fa (Vb) [(HD.i 17),(HD.i 0),(.ref 85)]
def Wg:=HD.sb (U4) [(.ref 96)]
def U5:=HD.dc [HD.e P cR 274 (.str bo 194),HD.e P gD 276 (.str mX 275),HD.e P cT 278 (.int (.ofNat 17) 277),HD.e P aX 285 (.ref 93),HD.e P cQ 286 (.ref 94)] 5
def UO:=HD.fl [(HD.i 19),(HD.i 4),(.ref 92)]
def WY:=HD.cd mX mX aV 269 270 271 17 0 0 0 0 83 false 181 84 .none .none .none .none 272 17 273
def Vj:=HD.fm 85 3 82 bo 194
def KP:=HD.tp [(.str gW 282)]
def UZ:=HD.fs aX P9 (L2.inClass (ht 5) 0)
def Hv:=HD.cd aX P9 aV 279 280 281 19 1 0 0 3 87 true 181 88 .none (.ref 89) (.ref 90) (.ref 91) 283 19 284
def Iy:=HD.fu aX P9 (L2.inClass (ht 5) 0) bo 194 92
def Ld:=HD.dc [HD.e P cR 274 (.str bo 194),HD.e P cT 278 (.int (.ofNat 17) 277),HD.e P aX 285 (.ref 93),HD.e P cQ 286 (.ref 94),HD.e P Aa 287 .none] 2
def IP:=HD.cl mX [(.ref 38)] [(.ref 96),(.ref 38),(.type "ValueError"),(.type "Exception"),(.type "BaseException"),(.type "object")] 95 [] 80 267 275 (.builtin "ValueError.__new__")
def VD:=HD.su 96
def Vp:=HD.bm (.builtin "object.__init_subclass__") (.ref 96)
noncomputable def Zg4:List Stmt:=[ht 5]
noncomputable def ZT4(P:Params):BT:=(HD.iy [bw,cS,U5 P,af,UO,WY,Vj,af,aD,KP,af,UZ,Hv,Iy,af,Ld P,IP,VD,Vp] ((((ZT3 P).ins (nat_lit 3) (ab9 P)).ins (nat_lit 12) (UT)).ins (nat_lit 38) (Wg)) (nat_lit 80))
noncomputable abbrev ZS4(w:World)(os:OsState):SharedT:=⟨ZT4 w.params,nat_lit 99,gZ,Array.mk [],⟨0,0,0,0⟩,nat_lit 290,os⟩
noncomputable def Zq4:HD.iV (HD.F4):=λw=>(λos=>segRunT treeTable pw w (nat_lit 11) (some (.ref 6)) (nat_lit 1) (nat_lit 244) (ZS3 w os) (piecesOf Zg4 dN cB ⟨13,0,16,16⟩ dF),λos=>some (Flow.next,ZS4 w os,cB,⟨17,0,20,16⟩))
theorem Y_:HD.seg pw (nat_lit 11) (some (.ref 6)) (nat_lit 244) ZS3 ZS4 Zg4 dN cB ⟨13,0,16,16⟩ ⟨17,0,20,16⟩ dF=Zq4:=by kernel_rfl
name_quick Vx for Zq4 by Y_
theorem Zi4(w:World):(Fast.Vx w).1=(Fast.Vx w).2:=by kernel_rfl
theorem Zh4:HD.Ok (HD.seg pw (nat_lit 11) (some (.ref 6)) (nat_lit 244) ZS3 ZS4 Zg4 dN cB ⟨13,0,16,16⟩ ⟨17,0,20,16⟩ dF):=HD.iW Fast.Vx_eq Zi4
def abK:=HD.dm (ab9 P) [HD.e P ou 312 (.ref 115)] 15
def Wj:=HD.fa (UT) [(HD.i 21),(HD.i 0),(.ref 104)]
def Vh:=HD.sb (Wg) [(.ref 115)]
def OL:=HD.dc [HD.e P cR 297 (.str bo 194),HD.e P gD 299 (.str ou 298),HD.e P cT 301 (.int (.ofNat 21) 300),HD.e P aX 308 (.ref 112),HD.e P cQ 309 (.ref 113)] 5
def RG:=HD.fl [(HD.i 23),(HD.i 4),(.ref 111)]
def Rn:=HD.cd ou ou aV 292 293 294 21 0 0 0 0 102 false 181 103 .none .none .none .none 295 21 296
def RR:=HD.fm 104 3 101 bo 194
def A2:=HD.tp [(.str gW 305)]
def O3:=HD.fs aX Rj (L2.inClass (ht 6) 0)
def Bz:=HD.cd aX Rj aV 302 303 304 23 1 0 0 3 106 true 181 107 .none (.ref 108) (.ref 109) (.ref 110) 306 23 307
def AS:=HD.fu aX Rj (L2.inClass (ht 6) 0) bo 194 111
def A7:=HD.dc [HD.e P cR 297 (.str bo 194),HD.e P cT 301 (.int (.ofNat 21) 300),HD.e P aX 308 (.ref 112),HD.e P cQ 309 (.ref 113),HD.e P Aa 310 .none] 2
def Bf:=HD.cl ou [(.ref 38)] [(.ref 115),(.ref 38),(.type "ValueError"),(.type "Exception"),(.type "BaseException"),(.type "object")] 114 [] 99 290 298 (.builtin "ValueError.__new__")
def Ox:=HD.su 115
def RV:=HD.bm (.builtin "object.__init_subclass__") (.ref 115)
noncomputable def Zg5:List Stmt:=[ht 6]
noncomputable def ZT5(P:Params):BT:=(HD.iy [bw,cS,OL P,af,RG,Rn,RR,af,aD,A2,af,O3,Bz,AS,af,A7 P,Bf,Ox,RV] ((((ZT4 P).ins (nat_lit 3) (abK P)).ins (nat_lit 12) (Wj)).ins (nat_lit 38) (Vh)) (nat_lit 99))
noncomputable abbrev ZS5(w:World)(os:OsState):SharedT:=⟨ZT5 w.params,nat_lit 118,gZ,Array.mk [],⟨0,0,0,0⟩,nat_lit 313,os⟩
noncomputable def Zq5:HD.iV (HD.F4):=λw=>(λos=>segRunT treeTable pw w (nat_lit 11) (some (.ref 6)) (nat_lit 1) (nat_lit 244) (ZS4 w os) (piecesOf Zg5 dN cB ⟨17,0,20,16⟩ dF),λos=>some (Flow.next,ZS5 w os,cB,⟨21,0,24,16⟩))
theorem Xv:HD.seg pw (nat_lit 11) (some (.ref 6)) (nat_lit 244) ZS4 ZS5 Zg5 dN cB ⟨17,0,20,16⟩ ⟨21,0,24,16⟩ dF=Zq5:=by kernel_rfl
name_quick WS for Zq5 by Xv
theorem Zi5(w:World):(Fast.WS w).1=(Fast.WS w).2:=by kernel_rfl
theorem Zh5:HD.Ok (HD.seg pw (nat_lit 11) (some (.ref 6)) (nat_lit 244) ZS4 ZS5 Zg5 dN cB ⟨17,0,20,16⟩ ⟨21,0,24,16⟩ dF):=HD.iW Fast.WS_eq Zi5
def adu:=HD.dm (abK P) [HD.e P mw 335 (.ref 134)] 16
def V3:=HD.fa (Wj) [(HD.i 25),(HD.i 0),(.ref 123)]
def Vw:=HD.sb (Vh) [(.ref 134)]
def NO:=HD.dc [HD.e P cR 320 (.str bo 194),HD.e P gD 322 (.str mw 321),HD.e P cT 324 (.int (.ofNat 25) 323),HD.e P aX 331 (.ref 131),HD.e P cQ 332 (.ref 132)] 5
def Ri:=HD.fl [(HD.i 27),(HD.i 4),(.ref 130)]
def Nr:=HD.cd mw mw aV 315 316 317 25 0 0 0 0 121 false 181 122 .none .none .none .none 318 25 319
def P6:=HD.fm 123 3 120 bo 194
def A3:=HD.tp [(.str gW 328)]
def PQ:=HD.fs aX OK (L2.inClass (ht 7) 0)
def BQ:=HD.cd aX OK aV 325 326 327 27 1 0 0 3 125 true 181 126 .none (.ref 127) (.ref 128) (.ref 129) 329 27 330
def BG:=HD.fu aX OK (L2.inClass (ht 7) 0) bo 194 130
def BD:=HD.dc [HD.e P cR 320 (.str bo 194),HD.e P cT 324 (.int (.ofNat 25) 323),HD.e P aX 331 (.ref 131),HD.e P cQ 332 (.ref 132),HD.e P Aa 333 .none] 2
def CJ:=HD.cl mw [(.ref 38)] [(.ref 134),(.ref 38),(.type "ValueError"),(.type "Exception"),(.type "BaseException"),(.type "object")] 133 [] 118 313 321 (.builtin "ValueError.__new__")
def Pc:=HD.su 134
def Qh:=HD.bm (.builtin "object.__init_subclass__") (.ref 134)
noncomputable def Zg6:List Stmt:=[ht 7]
noncomputable def ZT6(P:Params):BT:=(HD.iy [bw,cS,NO P,af,Ri,Nr,P6,af,aD,A3,af,PQ,BQ,BG,af,BD P,CJ,Pc,Qh] ((((ZT5 P).ins (nat_lit 3) (adu P)).ins (nat_lit 12) (V3)).ins (nat_lit 38) (Vw)) (nat_lit 118))
noncomputable abbrev ZS6(w:World)(os:OsState):SharedT:=⟨ZT6 w.params,nat_lit 137,gZ,Array.mk [],⟨0,0,0,0⟩,nat_lit 336,os⟩
noncomputable def Zq6:HD.iV (HD.F4):=λw=>(λos=>segRunT treeTable pw w (nat_lit 11) (some (.ref 6)) (nat_lit 1) (nat_lit 244) (ZS5 w os) (piecesOf Zg6 dN cB ⟨21,0,24,16⟩ dF),λos=>some (Flow.next,ZS6 w os,cB,⟨25,0,28,16⟩))
theorem ZK:HD.seg pw (nat_lit 11) (some (.ref 6)) (nat_lit 244) ZS5 ZS6 Zg6 dN cB ⟨21,0,24,16⟩ ⟨25,0,28,16⟩ dF=Zq6:=by kernel_rfl
name_quick Vs for Zq6 by ZK
theorem Zi6(w:World):(Fast.Vs w).1=(Fast.Vs w).2:=by kernel_rfl
theorem Zh6:HD.Ok (HD.seg pw (nat_lit 11) (some (.ref 6)) (nat_lit 244) ZS5 ZS6 Zg6 dN cB ⟨21,0,24,16⟩ ⟨25,0,28,16⟩ dF):=HD.iW Fast.Vs_eq Zi6
def acm:=HD.dm (adu P) [HD.e P nB 358 (.ref 153)] 17
def UW:=HD.fa (V3) [(HD.i 29),(HD.i 0),(.ref 142)]
def Wi:=HD.sb (Vw) [(.ref 153)]
def Nu:=HD.dc [HD.e P cR 343 (.str bo 194),HD.e P gD 345 (.str nB 344),HD.e P cT 347 (.int (.ofNat 29) 346),HD.e P aX 354 (.ref 150),HD.e P cQ 355 (.ref 151)] 5
def N3:=HD.fl [(HD.i 31),(HD.i 4),(.ref 149)]
def Qc:=HD.cd nB nB aV 338 339 340 29 0 0 0 0 140 false 181 141 .none .none .none .none 341 29 342
def RC:=HD.fm 142 3 139 bo 194
def Bg:=HD.tp [(.str gW 351)]
def QL:=HD.fs aX QE (L2.inClass (ht 8) 0)
def CO:=HD.cd aX QE aV 348 349 350 31 1 0 0 3 144 true 181 145 .none (.ref 146) (.ref 147) (.ref 148) 352 31 353
def Be:=HD.fu aX QE (L2.inClass (ht 8) 0) bo 194 149
def CH:=HD.dc [HD.e P cR 343 (.str bo 194),HD.e P cT 347 (.int (.ofNat 29) 346),HD.e P aX 354 (.ref 150),HD.e P cQ 355 (.ref 151),HD.e P Aa 356 .none] 2
def B6:=HD.cl nB [(.ref 38)] [(.ref 153),(.ref 38),(.type "ValueError"),(.type "Exception"),(.type "BaseException"),(.type "object")] 152 [] 137 336 344 (.builtin "ValueError.__new__")
def Q3:=HD.su 153
def OJ:=HD.bm (.builtin "object.__init_subclass__") (.ref 153)
noncomputable def Zg7:List Stmt:=[ht 8]
noncomputable def ZT7(P:Params):BT:=(HD.iy [bw,cS,Nu P,af,N3,Qc,RC,af,aD,Bg,af,QL,CO,Be,af,CH P,B6,Q3,OJ] ((((ZT6 P).ins (nat_lit 3) (acm P)).ins (nat_lit 12) (UW)).ins (nat_lit 38) (Wi)) (nat_lit 137))
noncomputable abbrev ZS7(w:World)(os:OsState):SharedT:=⟨ZT7 w.params,nat_lit 156,gZ,Array.mk [],⟨0,0,0,0⟩,nat_lit 359,os⟩
noncomputable def Zq7:HD.iV (HD.F4):=λw=>(λos=>segRunT treeTable pw w (nat_lit 11) (some (.ref 6)) (nat_lit 1) (nat_lit 244) (ZS6 w os) (piecesOf Zg7 dN cB ⟨25,0,28,16⟩ dF),λos=>some (Flow.next,ZS7 w os,cB,⟨29,0,32,16⟩))
theorem Y8:HD.seg pw (nat_lit 11) (some (.ref 6)) (nat_lit 244) ZS6 ZS7 Zg7 dN cB ⟨25,0,28,16⟩ ⟨29,0,32,16⟩ dF=Zq7:=by kernel_rfl
name_quick WO for Zq7 by Y8
theorem Zi7(w:World):(Fast.WO w).1=(Fast.WO w).2:=by kernel_rfl
theorem Zh7:HD.Ok (HD.seg pw (nat_lit 11) (some (.ref 6)) (nat_lit 244) ZS6 ZS7 Zg7 dN cB ⟨25,0,28,16⟩ ⟨29,0,32,16⟩ dF):=HD.iW Fast.WO_eq Zi7
def abA:=HD.dm (acm P) [HD.e P m5 381 (.ref 172)] 18
def VP:=HD.fa (UW) [(HD.i 33),(HD.i 0),(.ref 161)]
def Wh:=HD.sb (Wi) [(.ref 172)]
def QA:=HD.dc [HD.e P cR 366 (.str bo 194),HD.e P gD 368 (.str m5 367),HD.e P cT 370 (.int (.ofNat 33) 369),HD.e P aX 377 (.ref 169),HD.e P cQ 378 (.ref 170)] 5
def RU:=HD.fl [(HD.i 35),(HD.i 4),(.ref 168)]
def QM:=HD.cd m5 m5 aV 361 362 363 33 0 0 0 0 159 false 181 160 .none .none .none .none 364 33 365
def Qz:=HD.fm 161 3 158 bo 194
def CC:=HD.tp [(.str gW 374)]
def OV:=HD.fs aX Qa (L2.inClass (ht 9) 0)
def Cp:=HD.cd aX Qa aV 371 372 373 35 1 0 0 3 163 true 181 164 .none (.ref 165) (.ref 166) (.ref 167) 375 35 376
def Ce:=HD.fu aX Qa (L2.inClass (ht 9) 0) bo 194 168
def CG:=HD.dc [HD.e P cR 366 (.str bo 194),HD.e P cT 370 (.int (.ofNat 33) 369),HD.e P aX 377 (.ref 169),HD.e P cQ 378 (.ref 170),HD.e P Aa 379 .none] 2
def B0:=HD.cl m5 [(.ref 38)] [(.ref 172),(.ref 38),(.type "ValueError"),(.type "Exception"),(.type "BaseException"),(.type "object")] 171 [] 156 359 367 (.builtin "ValueError.__new__")
def NZ:=HD.su 172
def Qm:=HD.bm (.builtin "object.__init_subclass__") (.ref 172)
noncomputable def Zg8:List Stmt:=[ht 9]
noncomputable def ZT8(P:Params):BT:=(HD.iy [bw,cS,QA P,af,RU,QM,Qz,af,aD,CC,af,OV,Cp,Ce,af,CG P,B0,NZ,Qm] ((((ZT7 P).ins (nat_lit 3) (abA P)).ins (nat_lit 12) (VP)).ins (nat_lit 38) (Wh)) (nat_lit 156))
noncomputable abbrev ZS8(w:World)(os:OsState):SharedT:=⟨ZT8 w.params,nat_lit 175,gZ,Array.mk [],⟨0,0,0,0⟩,nat_lit 382,os⟩
noncomputable def Zq8:HD.iV (HD.F4):=λw=>(λos=>segRunT treeTable pw w (nat_lit 11) (some (.ref 6)) (nat_lit 1) (nat_lit 244) (ZS7 w os) (piecesOf Zg8 dN cB ⟨29,0,32,16⟩ dF),λos=>some (Flow.next,ZS8 w os,cB,⟨33,0,36,16⟩))
theorem Zh:HD.seg pw (nat_lit 11) (some (.ref 6)) (nat_lit 244) ZS7 ZS8 Zg8 dN cB ⟨29,0,32,16⟩ ⟨33,0,36,16⟩ dF=Zq8:=by kernel_rfl
name_quick Vu for Zq8 by Zh
theorem Zi8(w:World):(Fast.Vu w).1=(Fast.Vu w).2:=by kernel_rfl
theorem Zh8:HD.Ok (HD.seg pw (nat_lit 11) (some (.ref 6)) (nat_lit 244) ZS7 ZS8 Zg8 dN cB ⟨29,0,32,16⟩ ⟨33,0,36,16⟩ dF):=HD.iW Fast.Vu_eq Zi8
def aav:=HD.dm (abA P) [HD.e P og 404 (.ref 191)] 19
def VE:=HD.fa (VP) [(HD.i 37),(HD.i 0),(.ref 180)]
def Vc:=HD.sb (Wh) [(.ref 191)]
def OE:=HD.dc [HD.e P cR 389 (.str bo 194),HD.e P gD 391 (.str og 390),HD.e P cT 393 (.int (.ofNat 37) 392),HD.e P aX 400 (.ref 188),HD.e P cQ 401 (.ref 189)] 5
def Pe:=HD.fl [(HD.i 39),(HD.i 4),(.ref 187)]
def Q_:=HD.cd og og aV 384 385 386 37 0 0 0 0 178 false 181 179 .none .none .none .none 387 37 388
def Rk:=HD.fm 180 3 177 bo 194
def Br:=HD.tp [(.str gW 397)]
def Qv:=HD.fs aX RK (L2.inClass (ht 10) 0)
def Cn:=HD.cd aX RK aV 394 395 396 39 1 0 0 3 182 true 181 183 .none (.ref 184) (.ref 185) (.ref 186) 398 39 399
def BI:=HD.fu aX RK (L2.inClass (ht 10) 0) bo 194 187
def Bt:=HD.dc [HD.e P cR 389 (.str bo 194),HD.e P cT 393 (.int (.ofNat 37) 392),HD.e P aX 400 (.ref 188),HD.e P cQ 401 (.ref 189),HD.e P Aa 402 .none] 2
def AK:=HD.cl og [(.ref 38)] [(.ref 191),(.ref 38),(.type "ValueError"),(.type "Exception"),(.type "BaseException"),(.type "object")] 190 [] 175 382 390 (.builtin "ValueError.__new__")
def Pj:=HD.su 191
def Ry:=HD.bm (.builtin "object.__init_subclass__") (.ref 191)
noncomputable def Zg9:List Stmt:=[ht 10]
noncomputable def ZT9(P:Params):BT:=(HD.iy [bw,cS,OE P,af,Pe,Q_,Rk,af,aD,Br,af,Qv,Cn,BI,af,Bt P,AK,Pj,Ry] ((((ZT8 P).ins (nat_lit 3) (aav P)).ins (nat_lit 12) (VE)).ins (nat_lit 38) (Vc)) (nat_lit 175))
noncomputable abbrev ZS9(w:World)(os:OsState):SharedT:=⟨ZT9 w.params,nat_lit 194,gZ,Array.mk [],⟨0,0,0,0⟩,nat_lit 405,os⟩
noncomputable def Zq9:HD.iV (HD.F4):=λw=>(λos=>segRunT treeTable pw w (nat_lit 11) (some (.ref 6)) (nat_lit 1) (nat_lit 244) (ZS8 w os) (piecesOf Zg9 dN cB ⟨33,0,36,16⟩ dF),λos=>some (Flow.next,ZS9 w os,cB,⟨37,0,40,16⟩))
theorem Xg:HD.seg pw (nat_lit 11) (some (.ref 6)) (nat_lit 244) ZS8 ZS9 Zg9 dN cB ⟨33,0,36,16⟩ ⟨37,0,40,16⟩ dF=Zq9:=by kernel_rfl
name_quick U0 for Zq9 by Xg
theorem Zi9(w:World):(Fast.U0 w).1=(Fast.U0 w).2:=by kernel_rfl
theorem Zh9:HD.Ok (HD.seg pw (nat_lit 11) (some (.ref 6)) (nat_lit 244) ZS8 ZS9 Zg9 dN cB ⟨33,0,36,16⟩ ⟨37,0,40,16⟩ dF):=HD.iW Fast.U0_eq Zi9
def VZ:=HD.dm (aav P) [HD.e P oj 427 (.ref 210)] 20
def O7:=HD.fa (VE) [(HD.i 41),(HD.i 0),(.ref 199)]
def Ra:=HD.sb (Vc) [(.ref 210)]
def Il:=HD.dc [HD.e P cR 412 (.str bo 194),HD.e P gD 414 (.str oj 413),HD.e P cT 416 (.int (.ofNat 41) 415),HD.e P aX 423 (.ref 207),HD.e P cQ 424 (.ref 208)] 5
def K7:=HD.fl [(HD.i 43),(HD.i 4),(.ref 206)]
def Iz:=HD.cd oj oj aV 407 408 409 41 0 0 0 0 197 false 181 198 .none .none .none .none 410 41 411
def JE:=HD.fm 199 3 196 bo 194
def wa:=HD.tp [(.str gW 420)]
def K8:=HD.fs aX NU (L2.inClass (ht 11) 0)
def rS:=HD.cd aX NU aV 417 418 419 43 1 0 0 3 201 true 181 202 .none (.ref 203) (.ref 204) (.ref 205) 421 43 422
def vf:=HD.fu aX NU (L2.inClass (ht 11) 0) bo 194 206
def tH:=HD.dc [HD.e P cR 412 (.str bo 194),HD.e P cT 416 (.int (.ofNat 41) 415),HD.e P aX 423 (.ref 207),HD.e P cQ 424 (.ref 208),HD.e P Aa 425 .none] 2
def vS:=HD.cl oj [(.ref 38)] [(.ref 210),(.ref 38),(.type "ValueError"),(.type "Exception"),(.type "BaseException"),(.type "object")] 209 [] 194 405 413 (.builtin "ValueError.__new__")
def Ls:=HD.su 210
def JA:=HD.bm (.builtin "object.__init_subclass__") (.ref 210)
noncomputable def SG:List Stmt:=[ht 11]
noncomputable def ab_(P:Params):BT:=(HD.iy [bw,cS,Il P,af,K7,Iz,JE,af,aD,wa,af,K8,rS,vf,af,tH P,vS,Ls,JA] ((((ZT9 P).ins (nat_lit 3) (VZ P)).ins (nat_lit 12) (O7)).ins (nat_lit 38) (Ra)) (nat_lit 194))
noncomputable abbrev Lx(w:World)(os:OsState):SharedT:=⟨ab_ w.params,nat_lit 213,gZ,Array.mk [],⟨0,0,0,0⟩,nat_lit 428,os⟩
noncomputable def acM:HD.iV (HD.F4):=λw=>(λos=>segRunT treeTable pw w (nat_lit 11) (some (.ref 6)) (nat_lit 1) (nat_lit 244) (ZS9 w os) (piecesOf SG dN cB ⟨37,0,40,16⟩ dF),λos=>some (Flow.next,Lx w os,cB,⟨41,0,44,16⟩))
theorem Ss:HD.seg pw (nat_lit 11) (some (.ref 6)) (nat_lit 244) ZS9 Lx SG dN cB ⟨37,0,40,16⟩ ⟨41,0,44,16⟩ dF=acM:=by kernel_rfl
name_quick Oq for acM by Ss
theorem aeG(w:World):(Fast.Oq w).1=(Fast.Oq w).2:=by kernel_rfl
theorem ad2:HD.Ok (HD.seg pw (nat_lit 11) (some (.ref 6)) (nat_lit 244) ZS9 Lx SG dN cB ⟨37,0,40,16⟩ ⟨41,0,44,16⟩ dF):=HD.iW Fast.Oq_eq aeG
def WR:=HD.dm (VZ P) [HD.e P mP 450 (.ref 229)] 21
def Pl:=HD.fa (O7) [(HD.i 45),(HD.i 0),(.ref 218)]
def QS:=HD.sb (Ra) [(.ref 229)]
def KW:=HD.dc [HD.e P cR 435 (.str bo 194),HD.e P gD 437 (.str mP 436),HD.e P cT 439 (.int (.ofNat 45) 438),HD.e P aX 446 (.ref 226),HD.e P cQ 447 (.ref 227)] 5
def HE:=HD.fl [(HD.i 47),(HD.i 4),(.ref 225)]
def IF:=HD.cd mP mP aV 430 431 432 45 0 0 0 0 216 false 181 217 .none .none .none .none 433 45 434
def KL:=HD.fm 218 3 215 bo 194
def wj:=HD.tp [(.str gW 443)]
def Kr:=HD.fs aX OB (L2.inClass (ht 12) 0)
def tQ:=HD.cd aX OB aV 440 441 442 47 1 0 0 3 220 true 181 221 .none (.ref 222) (.ref 223) (.ref 224) 444 47 445
def vp:=HD.fu aX OB (L2.inClass (ht 12) 0) bo 194 225
def uJ:=HD.dc [HD.e P cR 435 (.str bo 194),HD.e P cT 439 (.int (.ofNat 45) 438),HD.e P aX 446 (.ref 226),HD.e P cQ 447 (.ref 227),HD.e P Aa 448 .none] 2
def qY:=HD.cl mP [(.ref 38)] [(.ref 229),(.ref 38),(.type "ValueError"),(.type "Exception"),(.type "BaseException"),(.type "object")] 228 [] 213 428 436 (.builtin "ValueError.__new__")
def KQ:=HD.su 229
def KU:=HD.bm (.builtin "object.__init_subclass__") (.ref 229)
noncomputable def Uz:List Stmt:=[ht 12]
noncomputable def abb(P:Params):BT:=(HD.iy [bw,cS,KW P,af,HE,IF,KL,af,aD,wj,af,Kr,tQ,vp,af,uJ P,qY,KQ,KU] ((((ab_ P).ins (nat_lit 3) (WR P)).ins (nat_lit 12) (Pl)).ins (nat_lit 38) (QS)) (nat_lit 213))
noncomputable abbrev M6(w:World)(os:OsState):SharedT:=⟨abb w.params,nat_lit 232,gZ,Array.mk [],⟨0,0,0,0⟩,nat_lit 451,os⟩
noncomputable def acZ:HD.iV (HD.F4):=λw=>(λos=>segRunT treeTable pw w (nat_lit 11) (some (.ref 6)) (nat_lit 1) (nat_lit 244) (Lx w os) (piecesOf Uz dN cB ⟨41,0,44,16⟩ dF),λos=>some (Flow.next,M6 w os,cB,⟨45,0,48,17⟩))
theorem UB:HD.seg pw (nat_lit 11) (some (.ref 6)) (nat_lit 244) Lx M6 Uz dN cB ⟨41,0,44,16⟩ ⟨45,0,48,17⟩ dF=acZ:=by kernel_rfl
name_quick Qb for acZ by UB
theorem adA(w:World):(Fast.Qb w).1=(Fast.Qb w).2:=by kernel_rfl
theorem aeM:HD.Ok (HD.seg pw (nat_lit 11) (some (.ref 6)) (nat_lit 244) Lx M6 Uz dN cB ⟨41,0,44,16⟩ ⟨45,0,48,17⟩ dF):=HD.iW Fast.Qb_eq adA
def WG:=HD.dm (WR P) [HD.e P nV 473 (.ref 248)] 22
def RM:=HD.fa (Pl) [(HD.i 49),(HD.i 0),(.ref 237)]
def NI:=HD.sb (QS) [(.ref 248)]
def JD:=HD.dc [HD.e P cR 458 (.str bo 194),HD.e P gD 460 (.str nV 459),HD.e P cT 462 (.int (.ofNat 49) 461),HD.e P aX 469 (.ref 245),HD.e P cQ 470 (.ref 246)] 5
def HX:=HD.fl [(HD.i 51),(HD.i 4),(.ref 244)]
def Kk:=HD.cd nV nV aV 453 454 455 49 0 0 0 0 235 false 181 236 .none .none .none .none 456 49 457
def IG:=HD.fm 237 3 234 bo 194
def uY:=HD.tp [(.str gW 466)]
def IW:=HD.fs aX Q4 (L2.inClass (ht 13) 0)
def tX:=HD.cd aX Q4 aV 463 464 465 51 1 0 0 3 239 true 181 240 .none (.ref 241) (.ref 242) (.ref 243) 467 51 468
def rK:=HD.fu aX Q4 (L2.inClass (ht 13) 0) bo 194 244
def vQ:=HD.dc [HD.e P cR 458 (.str bo 194),HD.e P cT 462 (.int (.ofNat 49) 461),HD.e P aX 469 (.ref 245),HD.e P cQ 470 (.ref 246),HD.e P Aa 471 .none] 2
def se:=HD.cl nV [(.ref 38)] [(.ref 248),(.ref 38),(.type "ValueError"),(.type "Exception"),(.type "BaseException"),(.type "object")] 247 [] 232 451 459 (.builtin "ValueError.__new__")
def IB:=HD.su 248
def La:=HD.bm (.builtin "object.__init_subclass__") (.ref 248)
noncomputable def S6:List Stmt:=[ht 13]
noncomputable def acn(P:Params):BT:=(HD.iy [bw,cS,JD P,af,HX,Kk,IG,af,aD,uY,af,IW,tX,rK,af,vQ P,se,IB,La] ((((abb P).ins (nat_lit 3) (WG P)).ins (nat_lit 12) (RM)).ins (nat_lit 38) (NI)) (nat_lit 232))
noncomputable abbrev L0(w:World)(os:OsState):SharedT:=⟨acn w.params,nat_lit 251,gZ,Array.mk [],⟨0,0,0,0⟩,nat_lit 474,os⟩
noncomputable def abE:HD.iV (HD.F4):=λw=>(λos=>segRunT treeTable pw w (nat_lit 11) (some (.ref 6)) (nat_lit 1) (nat_lit 244) (M6 w os) (piecesOf S6 dN cB ⟨45,0,48,17⟩ dF),λos=>some (Flow.next,L0 w os,cB,⟨49,0,52,17⟩))
theorem TX:HD.seg pw (nat_lit 11) (some (.ref 6)) (nat_lit 244) M6 L0 S6 dN cB ⟨45,0,48,17⟩ ⟨49,0,52,17⟩ dF=abE:=by kernel_rfl
name_quick Rm for abE by TX
theorem aeh(w:World):(Fast.Rm w).1=(Fast.Rm w).2:=by kernel_rfl
theorem adI:HD.Ok (HD.seg pw (nat_lit 11) (some (.ref 6)) (nat_lit 244) M6 L0 S6 dN cB ⟨45,0,48,17⟩ ⟨49,0,52,17⟩ dF):=HD.iW Fast.Rm_eq aeh
def VW:=HD.dm (WG P) [HD.e P nW 496 (.ref 267)] 23
def Ru:=HD.fa (RM) [(HD.i 53),(HD.i 0),(.ref 256)]
def Qd:=HD.sb (NI) [(.ref 267)]
def J8:=HD.dc [HD.e P cR 481 (.str bo 194),HD.e P gD 483 (.str nW 482),HD.e P cT 485 (.int (.ofNat 53) 484),HD.e P aX 492 (.ref 264),HD.e P cQ 493 (.ref 265)] 5
def Jv:=HD.fl [(HD.i 55),(HD.i 4),(.ref 263)]
def Ks:=HD.cd nW nW aV 476 477 478 53 0 0 0 0 254 false 181 255 .none .none .none .none 479 53 480
def KO:=HD.fm 256 3 253 bo 194
def sG:=HD.tp [(.str gW 489)]
def Jr:=HD.fs aX Pt (L2.inClass (ht 14) 0)
def wm:=HD.cd aX Pt aV 486 487 488 55 1 0 0 3 258 true 181 259 .none (.ref 260) (.ref 261) (.ref 262) 490 55 491
def wJ:=HD.fu aX Pt (L2.inClass (ht 14) 0) bo 194 263
def uS:=HD.dc [HD.e P cR 481 (.str bo 194),HD.e P cT 485 (.int (.ofNat 53) 484),HD.e P aX 492 (.ref 264),HD.e P cQ 493 (.ref 265),HD.e P Aa 494 .none] 2
def wB:=HD.cl nW [(.ref 38)] [(.ref 267),(.ref 38),(.type "ValueError"),(.type "Exception"),(.type "BaseException"),(.type "object")] 266 [] 251 474 482 (.builtin "ValueError.__new__")
def Jk:=HD.su 267
def K1:=HD.bm (.builtin "object.__init_subclass__") (.ref 267)
noncomputable def SO:List Stmt:=[ht 14]
noncomputable def aa8(P:Params):BT:=(HD.iy [bw,cS,J8 P,af,Jv,Ks,KO,af,aD,sG,af,Jr,wm,wJ,af,uS P,wB,Jk,K1] ((((acn P).ins (nat_lit 3) (VW P)).ins (nat_lit 12) (Ru)).ins (nat_lit 38) (Qd)) (nat_lit 251))
noncomputable abbrev MX(w:World)(os:OsState):SharedT:=⟨aa8 w.params,nat_lit 270,gZ,Array.mk [],⟨0,0,0,0⟩,nat_lit 497,os⟩
noncomputable def abr:HD.iV (HD.F4):=λw=>(λos=>segRunT treeTable pw w (nat_lit 11) (some (.ref 6)) (nat_lit 1) (nat_lit 244) (L0 w os) (piecesOf SO dN cB ⟨49,0,52,17⟩ dF),λos=>some (Flow.next,MX w os,cB,⟨53,0,56,17⟩))
theorem Uj:HD.seg pw (nat_lit 11) (some (.ref 6)) (nat_lit 244) L0 MX SO dN cB ⟨49,0,52,17⟩ ⟨53,0,56,17⟩ dF=abr:=by kernel_rfl
name_quick Oi for abr by Uj
theorem aeq(w:World):(Fast.Oi w).1=(Fast.Oi w).2:=by kernel_rfl
theorem aeD:HD.Ok (HD.seg pw (nat_lit 11) (some (.ref 6)) (nat_lit 244) L0 MX SO dN cB ⟨49,0,52,17⟩ ⟨53,0,56,17⟩ dF):=HD.iW Fast.Oi_eq aeq
def aaL:=HD.dm (VW P) [HD.e P mR 519 (.ref 286)] 24
def RT:=HD.fa (Ru) [(HD.i 57),(HD.i 0),(.ref 275)]
def Q5:=HD.sb (Qd) [(.ref 286)]
def Lb:=HD.dc [HD.e P cR 504 (.str bo 194),HD.e P gD 506 (.str mR 505),HD.e P cT 508 (.int (.ofNat 57) 507),HD.e P aX 515 (.ref 283),HD.e P cQ 516 (.ref 284)] 5
def Ig:=HD.fl [(HD.i 59),(HD.i 4),(.ref 282)]
def JG:=HD.cd mR mR aV 499 500 501 57 0 0 0 0 273 false 181 274 .none .none .none .none 502 57 503
def Ki:=HD.fm 275 3 272 bo 194
def vb:=HD.tp [(.str gW 512)]
def IU:=HD.fs aX P8 (L2.inClass (ht 15) 0)
def vw:=HD.cd aX P8 aV 509 510 511 59 1 0 0 3 277 true 181 278 .none (.ref 279) (.ref 280) (.ref 281) 513 59 514
def tE:=HD.fu aX P8 (L2.inClass (ht 15) 0) bo 194 282
def wO:=HD.dc [HD.e P cR 504 (.str bo 194),HD.e P cT 508 (.int (.ofNat 57) 507),HD.e P aX 515 (.ref 283),HD.e P cQ 516 (.ref 284),HD.e P Aa 517 .none] 2
def so:=HD.cl mR [(.ref 38)] [(.ref 286),(.ref 38),(.type "ValueError"),(.type "Exception"),(.type "BaseException"),(.type "object")] 285 [] 270 497 505 (.builtin "ValueError.__new__")
def H_:=HD.su 286
def JT:=HD.bm (.builtin "object.__init_subclass__") (.ref 286)
noncomputable def S7:List Stmt:=[ht 15]
noncomputable def ac1(P:Params):BT:=(HD.iy [bw,cS,Lb P,af,Ig,JG,Ki,af,aD,vb,af,IU,vw,tE,af,wO P,so,H_,JT] ((((aa8 P).ins (nat_lit 3) (aaL P)).ins (nat_lit 12) (RT)).ins (nat_lit 38) (Q5)) (nat_lit 270))
noncomputable abbrev LU(w:World)(os:OsState):SharedT:=⟨ac1 w.params,nat_lit 289,gZ,Array.mk [],⟨0,0,0,0⟩,nat_lit 520,os⟩
noncomputable def aaW:HD.iV (HD.F4):=λw=>(λos=>segRunT treeTable pw w (nat_lit 11) (some (.ref 6)) (nat_lit 1) (nat_lit 244) (MX w os) (piecesOf S7 dN cB ⟨53,0,56,17⟩ dF),λos=>some (Flow.next,LU w os,cB,⟨57,0,60,17⟩))
theorem Ug:HD.seg pw (nat_lit 11) (some (.ref 6)) (nat_lit 244) MX LU S7 dN cB ⟨53,0,56,17⟩ ⟨57,0,60,17⟩ dF=aaW:=by kernel_rfl
name_quick N7 for aaW by Ug
theorem ad6(w:World):(Fast.N7 w).1=(Fast.N7 w).2:=by kernel_rfl
theorem aei:HD.Ok (HD.seg pw (nat_lit 11) (some (.ref 6)) (nat_lit 244) MX LU S7 dN cB ⟨53,0,56,17⟩ ⟨57,0,60,17⟩ dF):=HD.iW Fast.N7_eq ad6
def Ww:=HD.dc [HD.e P Zx0 165 (.str pR 543),HD.e P Aa 166 .none,HD.e P Zx3 167 .none,HD.e P Zx4 168 (.builtin "__main__.__loader__#opaque"),HD.e P Zx5 169 .none,HD.e P Dj 170 (.ref 6),HD.e P EU 171 (.ref 4),HD.e P C6 173 (.str aV 172),HD.e P Dq 174 .none,HD.e P ku 193 (.ref 21),HD.e P mY 220 (.ref 38),HD.e P nN 243 (.ref 58),HD.e P nG 266 (.ref 77),HD.e P mX 289 (.ref 96),HD.e P ou 312 (.ref 115),HD.e P mw 335 (.ref 134),HD.e P nB 358 (.ref 153),HD.e P m5 381 (.ref 172),HD.e P og 404 (.ref 191),HD.e P oj 427 (.ref 210),HD.e P mP 450 (.ref 229),HD.e P nV 473 (.ref 248),HD.e P nW 496 (.ref 267),HD.e P mR 519 (.ref 286),HD.e P p8 542 (.ref 305),HD.e P Lc 546 (.int (.ofNat 600) 545),HD.e P IE 548 (.int (.ofNat 40) 547),HD.e P K9 550 (.int (.ofNat 99) 549)] 28
def Qk:=HD.fa (RT) [(HD.i 61),(HD.i 0),(.ref 294)]
def CA:=HD.sb (Q5) [(.ref 305)]
def Kt:=HD.dc [HD.e P cR 527 (.str bo 194),HD.e P gD 529 (.str p8 528),HD.e P cT 531 (.int (.ofNat 61) 530),HD.e P aX 538 (.ref 302),HD.e P cQ 539 (.ref 303)] 5
def Kn:=HD.fl [(HD.i 63),(HD.i 4),(.ref 301)]
def Jj:=HD.cd p8 p8 aV 522 523 524 61 0 0 0 0 292 false 181 293 .none .none .none .none 525 61 526
def HA:=HD.fm 294 3 291 bo 194
def vL:=HD.tp [(.str gW 535)]
def Km:=HD.fs aX RW (L2.inClass (ht 16) 0)
def wK:=HD.cd aX RW aV 532 533 534 63 1 0 0 3 296 true 181 297 .none (.ref 298) (.ref 299) (.ref 300) 536 63 537
def wQ:=HD.fu aX RW (L2.inClass (ht 16) 0) bo 194 301
def tD:=HD.dc [HD.e P cR 527 (.str bo 194),HD.e P cT 531 (.int (.ofNat 61) 530),HD.e P aX 538 (.ref 302),HD.e P cQ 539 (.ref 303),HD.e P Aa 540 .none] 2
def vP:=HD.cl p8 [(.ref 38)] [(.ref 305),(.ref 38),(.type "ValueError"),(.type "Exception"),(.type "BaseException"),(.type "object")] 304 [] 289 520 528 (.builtin "ValueError.__new__")
def JO:=HD.su 305
def Jh:=HD.bm (.builtin "object.__init_subclass__") (.ref 305)
noncomputable def Sh:List Stmt:=[ht 16,ht 17,ht 18,ht 19,ht 20]
noncomputable def adh(P:Params):BT:=(HD.iy [bw,cS,Kt P,af,Kn,Jj,HA,af,aD,vL,af,Km,wK,wQ,af,tD P,vP,JO,Jh] ((((ac1 P).ins (nat_lit 3) (Ww P)).ins (nat_lit 12) (Qk)).ins (nat_lit 38) (CA)) (nat_lit 289))
noncomputable abbrev ET(w:World)(os:OsState):SharedT:=⟨adh w.params,nat_lit 308,gZ,Array.mk [],⟨0,0,0,0⟩,nat_lit 551,os⟩
noncomputable def aaM:HD.iV (HD.F4):=λw=>(λos=>segRunT treeTable pw w (nat_lit 11) (some (.ref 6)) (nat_lit 1) (nat_lit 280) (LU w os) (piecesOf Sh dN cB ⟨57,0,60,17⟩ dF),λos=>some (Flow.next,ET w os,cB,⟨68,0,68,13⟩))
theorem Ur:HD.seg pw (nat_lit 11) (some (.ref 6)) (nat_lit 280) LU ET Sh dN cB ⟨57,0,60,17⟩ ⟨68,0,68,13⟩ dF=aaM:=by kernel_rfl
name_quick Qw for aaM by Ur
theorem aeE(w:World):(Fast.Qw w).1=(Fast.Qw w).2:=by kernel_rfl
theorem aff:HD.Ok (HD.seg pw (nat_lit 11) (some (.ref 6)) (nat_lit 280) LU ET Sh dN cB ⟨57,0,60,17⟩ ⟨68,0,68,13⟩ dF):=HD.iW Fast.Qw_eq aeE
def aa4:=HD.dm (Ww P) [HD.e P Iq 615 (.ref 308)] 29
def sY:=HD.dc [HD.e P adj 551 (.ref 309),HD.e P acS 553 (.ref 310),HD.e P Zx9 555 (.ref 311),HD.e P Wy 559 (.ref 312),HD.e P acf 563 (.ref 313),HD.e P aaB 568 (.ref 314),HD.e P HF 570 (.ref 315),HD.e P VA 574 (.ref 316),HD.e P PM 578 (.ref 317),HD.e P Ye 580 (.ref 318),HD.e P O4 583 (.ref 319),HD.e P Rx 589 (.ref 320),HD.e P NA 593 (.ref 321),HD.e P abj 598 (.ref 322),HD.e P Qo 602 (.ref 323),HD.e P Qr 607 (.ref 324),HD.e P Q2 610 (.ref 325),HD.e P Wz 613 (.ref 327)] 18
def uO:=HD.tp [(.str ko 556),(.str ko 557)]
def ua:=HD.tp [(.str ko 560),(.str ko 561)]
def q_:=HD.tp [(.str ko 564),(.str fP 565),(.str fP 566)]
def vT:=HD.tp [(.str ko 571),(.str fP 572)]
def tM:=HD.tp [(.str fP 575),(.str fP 576)]
def sW:=HD.tp [(.str fP 581)]
def sd:=HD.tp [(.str ko 584),(.str fP 585),(.str fP 586),(.str fP 587)]
def rX:=HD.tp [(.str ko 590),(.str fP 591)]
def vy:=HD.tp [(.str ko 594),(.str fP 595),(.str fP 596)]
def sE:=HD.tp [(.str ko 599),(.str fP 600)]
def uU:=HD.tp [(.str ko 603),(.str fP 604),(.str fP 605)]
def rL:=HD.tp [(.str fP 608)]
def vc:=HD.tp [(.str fP 611)]
def IH:=HD.dc [HD.e P Wz 613 (.ref 327)] 1
noncomputable def L8:List Stmt:=[ht 21]
noncomputable def acv(P:Params):BT:=(HD.iy [sY P,af,af,uO,ua,q_,af,vT,tM,af,sW,sd,rX,vy,sE,uU,rL,vc,IH P,af] ((adh P).ins (nat_lit 3) (aa4 P)) (nat_lit 308))
noncomputable abbrev zm(w:World)(os:OsState):SharedT:=⟨acv w.params,nat_lit 328,gZ,Array.mk [],⟨0,0,0,0⟩,nat_lit 616,os⟩
noncomputable def Vd:HD.iV (HD.F4):=λw=>(λos=>segRunT treeTable pw (w.withFollow "special-get-raises" false) (nat_lit 11) (some (.ref 6)) (nat_lit 1) (nat_lit 340) (ET (w.withFollow "special-get-raises" false) os) (piecesOf L8 dN cB ⟨68,0,68,13⟩ dF),λos=>some (Flow.next,zm (w.withFollow "special-get-raises" false) os,cB,⟨69,0,69,8⟩))
theorem RD:(λw:World=>HD.seg pw (nat_lit 11) (some (.ref 6)) (nat_lit 340) ET zm L8 dN cB ⟨68,0,68,13⟩ ⟨69,0,69,8⟩ dF (w.withFollow "special-get-raises" false))=Vd:=by kernel_rfl
name_quick Ht for Vd by RD
theorem adk(w:World):(Fast.Ht w).1=(Fast.Ht w).2:=by kernel_rfl
noncomputable def VM:HD.iV (HD.F4):=λw=>(λos=>segRunT treeTable pw (w.withFollow "special-get-raises" true) (nat_lit 11) (some (.ref 6)) (nat_lit 1) (nat_lit 340) (ET (w.withFollow "special-get-raises" true) os) (piecesOf L8 dN cB ⟨68,0,68,13⟩ dF),λos=>some (Flow.next,zm (w.withFollow "special-get-raises" true) os,cB,⟨69,0,69,8⟩))
theorem NW:(λw:World=>HD.seg pw (nat_lit 11) (some (.ref 6)) (nat_lit 340) ET zm L8 dN cB ⟨68,0,68,13⟩ ⟨69,0,69,8⟩ dF (w.withFollow "special-get-raises" true))=VM:=by kernel_rfl
name_quick Kd for VM by NW
theorem acd(w:World):(Fast.Kd w).1=(Fast.Kd w).2:=by kernel_rfl
theorem aeu:HD.Ok (HD.seg pw (nat_lit 11) (some (.ref 6)) (nat_lit 340) ET zm L8 dN cB ⟨68,0,68,13⟩ ⟨69,0,69,8⟩ dF):=HD.LV "special-get-raises" Fast.Ht_eq Fast.Kd_eq adk acd
def ac7:=HD.dc [HD.e P Zx0 165 (.str Dw 679),HD.e P Aa 166 .none,HD.e P Zx3 167 .none,HD.e P Zx4 168 (.builtin "__main__.__loader__#opaque"),HD.e P Zx5 169 .none,HD.e P Dj 170 (.ref 6),HD.e P EU 171 (.ref 4),HD.e P C6 173 (.str aV 172),HD.e P Dq 174 .none,HD.e P ku 193 (.ref 21),HD.e P mY 220 (.ref 38),HD.e P nN 243 (.ref 58),HD.e P nG 266 (.ref 77),HD.e P mX 289 (.ref 96),HD.e P ou 312 (.ref 115),HD.e P mw 335 (.ref 134),HD.e P nB 358 (.ref 153),HD.e P m5 381 (.ref 172),HD.e P og 404 (.ref 191),HD.e P oj 427 (.ref 210),HD.e P mP 450 (.ref 229),HD.e P nV 473 (.ref 248),HD.e P nW 496 (.ref 267),HD.e P mR 519 (.ref 286),HD.e P p8 542 (.ref 305),HD.e P Lc 546 (.int (.ofNat 600) 545),HD.e P IE 548 (.int (.ofNat 40) 547),HD.e P K9 550 (.int (.ofNat 99) 549),HD.e P Iq 615 (.ref 308),HD.e P OW 631 (.ref 328),HD.e P nK 638 (.ref 335),HD.e P nu 644 (.ref 340),HD.e P nE 651 (.ref 347),HD.e P mS 657 (.ref 352),HD.e P ny 663 (.ref 357),HD.e P n6 670 (.ref 364),HD.e P nU 678 (.ref 371),HD.e P nD 689 (.ref 378),HD.e P mr 699 (.ref 385),HD.e P m8 710 (.ref 392)] 40
def Ol:=HD.fa (Qk) [(HD.i 71),(HD.i 0),(.ref 334),(HD.i 73),(HD.i 0),(.ref 339),(HD.i 85),(HD.i 0),(.ref 346),(HD.i 89),(HD.i 0),(.ref 351),(HD.i 92),(HD.i 0),(.ref 356),(HD.i 96),(HD.i 0),(.ref 363),(HD.i 100),(HD.i 0),(.ref 370),(HD.i 105),(HD.i 0),(.ref 377),(HD.i 110),(HD.i 0),(.ref 384),(HD.i 115),(HD.i 0),(.ref 391)]
def rH:=HD.dc [HD.e P Zx9 616 (.int (.ofNat 1) 617),HD.e P Wy 618 (.int (.ofNat 1) 619),HD.e P HF 620 (.int (.ofNat 1) 621),HD.e P O4 622 (.int (.ofNat 0) 623),HD.e P NA 624 (.int (.ofNat 0) 625)] 5
def r8:=HD.tp [(.str abR 635)]
def Ii:=HD.fs nK nK (ht 23)
def qZ:=HD.cd nK nK aV 632 633 634 71 1 0 0 3 329 true 181 330 .none (.ref 331) (.ref 332) (.ref 333) 636 71 637
def ve:=HD.fu nK nK (ht 23) pR 543 334
def Lk:=HD.fs nu nu (ht 24)
def sD:=HD.cd nu nu aV 639 640 641 73 1 0 0 3 336 true 181 337 .none .none .none (.ref 338) 642 73 643
def sQ:=HD.fu nu nu (ht 24) pR 543 339
def wH:=HD.tp [(.str ib 648)]
def HK:=HD.fs nE nE (ht 25)
def sZ:=HD.cd nE nE aV 645 646 647 85 1 0 0 3 341 true 181 342 .none (.ref 343) (.ref 344) (.ref 345) 649 85 650
def tT:=HD.fu nE nE (ht 25) pR 543 346
def JV:=HD.fs mS mS (ht 26)
def sI:=HD.cd mS mS aV 652 653 654 89 1 0 0 3 348 true 181 349 .none .none .none (.ref 350) 655 89 656
def uw:=HD.fu mS mS (ht 26) pR 543 351
def Kz:=HD.fs ny ny (ht 27)
def t_:=HD.cd ny ny aV 658 659 660 92 1 0 0 3 353 true 181 354 .none .none .none (.ref 355) 661 92 662
def vg:=HD.fu ny ny (ht 27) pR 543 356
def uq:=HD.tp [(.str ib 667)]
def Kw:=HD.fs n6 n6 (ht 28)
def vi:=HD.cd n6 n6 aV 664 665 666 96 1 0 0 3 358 true 181 359 .none (.ref 360) (.ref 361) (.ref 362) 668 96 669
def sA:=HD.fu n6 n6 (ht 28) pR 543 363
def rg:=HD.tp [(.str ib 674),(.str OA 675)]
def Jc:=HD.fs nU nU (ht 29)
def tw:=HD.cd nU nU aV 671 672 673 100 2 0 0 3 365 true 181 366 .none (.ref 367) (.ref 368) (.ref 369) 676 100 677
def vv:=HD.fu nU nU (ht 29) pR 543 370
def sP:=HD.tp [(.str ib 684),(.str P7 685),(.str OA 686)]
def Ie:=HD.fs nD nD (ht 31)
def vV:=HD.cd nD nD aV 681 682 683 105 2 0 0 3 372 true 181 373 .none (.ref 374) (.ref 375) (.ref 376) 687 105 688
def wX:=HD.fu nD nD (ht 31) Dw 679 377
def sM:=HD.tp [(.str ib 693),(.str DL 694),(.str RB 695),(.str P7 696)]
def Kf:=HD.fs mr mr (ht 32)
def rT:=HD.cd mr mr aV 690 691 692 110 2 0 0 3 379 true 181 380 .none (.ref 381) (.ref 382) (.ref 383) 697 110 698
def wZ:=HD.fu mr mr (ht 32) Dw 679 384
def rC:=HD.tp [(.str ib 703),(.str DL 704),(.str Wx 705),(.str adf 706),(.str OA 707)]
def KJ:=HD.fs m8 m8 (ht 33)
def ub:=HD.cd m8 m8 aV 700 701 702 115 3 0 0 3 386 true 181 387 .none (.ref 388) (.ref 389) (.ref 390) 708 115 709
def uK:=HD.fu m8 m8 (ht 33) Dw 679 391
noncomputable def MW:List Stmt:=[ht 22,ht 23,ht 24,ht 25,ht 26,ht 27,ht 28,ht 29,ht 30,ht 31,ht 32,ht 33]
noncomputable def aca(P:Params):BT:=(HD.iy [rH P,af,aD,r8,af,Ii,qZ,ve,af,aD,Lk,sD,sQ,af,aD,wH,af,HK,sZ,tT,af,aD,JV,sI,uw,af,aD,Kz,t_,vg,af,aD,uq,af,Kw,vi,sA,af,aD,rg,af,Jc,tw,vv,af,aD,sP,af,Ie,vV,wX,af,aD,sM,af,Kf,rT,wZ,af,aD,rC,af,KJ,ub,uK] (((acv P).ins (nat_lit 3) (ac7 P)).ins (nat_lit 12) (Ol)) (nat_lit 328))
noncomputable abbrev zl(w:World)(os:OsState):SharedT:=⟨aca w.params,nat_lit 393,gZ,Array.mk [],⟨0,0,0,0⟩,nat_lit 711,os⟩
noncomputable def UX:HD.iV (HD.F4):=λw=>(λos=>segRunT treeTable pw (w.withFollow "special-get-raises" false) (nat_lit 11) (some (.ref 6)) (nat_lit 1) (nat_lit 386) (zm (w.withFollow "special-get-raises" false) os) (piecesOf MW dN cB ⟨69,0,69,8⟩ dF),λos=>some (Flow.next,zl (w.withFollow "special-get-raises" false) os,cB,⟨115,0,121,31⟩))
theorem Qs:(λw:World=>HD.seg pw (nat_lit 11) (some (.ref 6)) (nat_lit 386) zm zl MW dN cB ⟨69,0,69,8⟩ ⟨115,0,121,31⟩ dF (w.withFollow "special-get-raises" false))=UX:=by kernel_rfl
name_quick HC for UX by Qs
theorem acN(w:World):(Fast.HC w).1=(Fast.HC w).2:=by kernel_rfl
noncomputable def WC:HD.iV (HD.F4):=λw=>(λos=>segRunT treeTable pw (w.withFollow "special-get-raises" true) (nat_lit 11) (some (.ref 6)) (nat_lit 1) (nat_lit 386) (zm (w.withFollow "special-get-raises" true) os) (piecesOf MW dN cB ⟨69,0,69,8⟩ dF),λos=>some (Flow.next,zl (w.withFollow "special-get-raises" true) os,cB,⟨115,0,121,31⟩))
theorem N6:(λw:World=>HD.seg pw (nat_lit 11) (some (.ref 6)) (nat_lit 386) zm zl MW dN cB ⟨69,0,69,8⟩ ⟨115,0,121,31⟩ dF (w.withFollow "special-get-raises" true))=WC:=by kernel_rfl
name_quick K4 for WC by N6
theorem adn(w:World):(Fast.K4 w).1=(Fast.K4 w).2:=by kernel_rfl
theorem adF:HD.Ok (HD.seg pw (nat_lit 11) (some (.ref 6)) (nat_lit 386) zm zl MW dN cB ⟨69,0,69,8⟩ ⟨115,0,121,31⟩ dF):=HD.LV "special-get-raises" Fast.HC_eq Fast.K4_eq acN adn
def acr:=HD.dc [HD.e P Zx0 165 (.str U9 822),HD.e P Aa 166 .none,HD.e P Zx3 167 .none,HD.e P Zx4 168 (.builtin "__main__.__loader__#opaque"),HD.e P Zx5 169 .none,HD.e P Dj 170 (.ref 6),HD.e P EU 171 (.ref 4),HD.e P C6 173 (.str aV 172),HD.e P Dq 174 .none,HD.e P ku 193 (.ref 21),HD.e P mY 220 (.ref 38),HD.e P nN 243 (.ref 58),HD.e P nG 266 (.ref 77),HD.e P mX 289 (.ref 96),HD.e P ou 312 (.ref 115),HD.e P mw 335 (.ref 134),HD.e P nB 358 (.ref 153),HD.e P m5 381 (.ref 172),HD.e P og 404 (.ref 191),HD.e P oj 427 (.ref 210),HD.e P mP 450 (.ref 229),HD.e P nV 473 (.ref 248),HD.e P nW 496 (.ref 267),HD.e P mR 519 (.ref 286),HD.e P p8 542 (.ref 305),HD.e P Lc 546 (.int (.ofNat 600) 545),HD.e P IE 548 (.int (.ofNat 40) 547),HD.e P K9 550 (.int (.ofNat 99) 549),HD.e P Iq 615 (.ref 308),HD.e P OW 631 (.ref 328),HD.e P nK 638 (.ref 335),HD.e P nu 644 (.ref 340),HD.e P nE 651 (.ref 347),HD.e P mS 657 (.ref 352),HD.e P ny 663 (.ref 357),HD.e P n6 670 (.ref 364),HD.e P nU 678 (.ref 371),HD.e P nD 689 (.ref 378),HD.e P mr 699 (.ref 385),HD.e P m8 710 (.ref 392),HD.e P pN 719 (.ref 399),HD.e P qh 727 (.ref 404),HD.e P pS 739 (.ref 411),HD.e P qG 751 (.ref 418),HD.e P WM 782 (.ref 419),HD.e P pZ 793 (.ref 437),HD.e P qH 801 (.ref 444),HD.e P qd 810 (.ref 451),HD.e P qm 821 (.ref 458)] 49
def PY:=HD.fa (Ol) [(HD.i 122),(HD.i 0),(.ref 398),(HD.i 125),(HD.i 0),(.ref 403),(HD.i 130),(HD.i 0),(.ref 410),(HD.i 135),(HD.i 0),(.ref 417),(HD.i 144),(HD.i 0),(.ref 436),(HD.i 151),(HD.i 0),(.ref 443),(HD.i 154),(HD.i 0),(.ref 450),(HD.i 166),(HD.i 0),(.ref 457)]
def si:=HD.tp [(.str ib 714),(.str DL 715),(.str Wx 716)]
def Ja:=HD.fs pN pN (ht 34)
def sf:=HD.cd pN pN aV 711 712 713 122 3 0 0 3 393 true 181 394 .none (.ref 395) (.ref 396) (.ref 397) 717 122 718
def sH:=HD.fu pN pN (ht 34) Dw 679 398
def Lj:=HD.fs qh qh (ht 36)
def sj:=HD.cd qh qh aV 722 723 724 125 3 0 0 3 400 true 181 401 .none .none .none (.ref 402) 725 125 726
def uM:=HD.fu qh qh (ht 36) Np 720 403
def sN:=HD.tp [(.str ib 731),(.str UU 732),(.str VS 733),(.str VB 734)]
def vH:=HD.tp [(.str UU 735),(.str VS 736)]
def J7:=HD.fs pS pS (ht 37)
def rJ:=HD.cd pS pS aV 728 729 730 130 3 0 0 3 405 true 181 406 .none (.ref 407) (.ref 408) (.ref 409) 737 130 738
def sk:=HD.fu pS pS (ht 37) Np 720 410
def wV:=HD.tp [(.str ib 743),(.str UY 744),(.str UN 745),(.str VB 746)]
def sr:=HD.tp [(.str UY 747),(.str UN 748)]
def Lq:=HD.fs qG qG (ht 38)
def tU:=HD.cd qG qG aV 740 741 742 135 3 0 0 3 412 true 181 413 .none (.ref 414) (.ref 415) (.ref 416) 749 135 750
def rN:=HD.fu qG qG (ht 38) Np 720 417
def tK:=HD.dc [HD.e P VA 754 (.ref 421),HD.e P O4 758 (.ref 424),HD.e P NA 765 (.ref 426),HD.e P Qr 769 (.ref 428),HD.e P Q2 773 (.ref 430)] 5
def ux:=HD.tp [(.int (.ofNat 1) 755),(.str HF 756),(.str HF 757)]
def sS:=HD.tp [(.ref 420)]
def uP:=HD.tp [(.int (.ofNat 4) 759),(.str PM 760),(.str PM 761)]
def wg:=HD.tp [(.int (.ofNat 4) 762),(.str Ye 763),(.str Ye 764)]
def uA:=HD.tp [(.ref 422),(.ref 423)]
def vO:=HD.tp [(.int (.ofNat 3) 766),(.str Rx 767),(.str Rx 768)]
def uZ:=HD.tp [(.ref 425)]
def rm:=HD.tp [(.int (.ofNat 1) 770),(.str Qo 771),(.str Qr 772)]
def vX:=HD.tp [(.ref 427)]
def wt:=HD.tp [(.int (.ofNat 1) 774),(.str Qo 775),(.str Q2 776)]
def ur:=HD.tp [(.ref 429)]
def uv:=HD.tp [(.str ib 786),(.str HR 787),(.str aaz 788),(.str ab4 789),(.str Ju 790)]
def HP:=HD.fs pZ pZ (ht 41)
def u_:=HD.cd pZ pZ aV 783 784 785 144 2 0 0 3 431 true 181 432 .none (.ref 433) (.ref 434) (.ref 435) 791 144 792
def sT:=HD.fu pZ pZ (ht 41) JU 752 436
def vh:=HD.tp [(.str ib 797),(.str P7 798)]
def KG:=HD.fs qH qH (ht 42)
def uz:=HD.cd qH qH aV 794 795 796 151 1 0 0 3 438 true 181 439 .none (.ref 440) (.ref 441) (.ref 442) 799 151 800
def sJ:=HD.fu qH qH (ht 42) JU 752 443
def tP:=HD.tp [(.str ib 805),(.str Ju 806),(.str HR 807)]
def HU:=HD.fs qd qd (ht 43)
def vz:=HD.cd qd qd aV 802 803 804 154 3 0 0 3 445 true 181 446 .none (.ref 447) (.ref 448) (.ref 449) 808 154 809
def ug:=HD.fu qd qd (ht 43) JU 752 450
def vU:=HD.tp [(.str ib 814),(.str DL 815),(.str HR 816),(.str RB 817),(.str Ju 818)]
def Ij:=HD.fs qm qm (ht 44)
def tV:=HD.cd qm qm aV 811 812 813 166 3 0 0 3 452 true 181 453 .none (.ref 454) (.ref 455) (.ref 456) 819 166 820
def rD:=HD.fu qm qm (ht 44) JU 752 457
noncomputable def MJ:List Stmt:=[ht 34,ht 35,ht 36,ht 37,ht 38,ht 39,ht 40,ht 41,ht 42,ht 43,ht 44,ht 45]
noncomputable def aaq(P:Params):BT:=(HD.iy [af,aD,si,af,Ja,sf,sH,af,aD,Lj,sj,uM,af,aD,sN,vH,J7,rJ,sk,af,aD,wV,sr,Lq,tU,rN,tK P,ux,sS,uP,wg,uA,vO,uZ,rm,vX,wt,ur,af,aD,uv,af,HP,u_,sT,af,aD,vh,af,KG,uz,sJ,af,aD,tP,af,HU,vz,ug,af,aD,vU,af,Ij,tV,rD] (((aca P).ins (nat_lit 3) (acr P)).ins (nat_lit 12) (PY)) (nat_lit 393))
noncomputable abbrev C9(w:World)(os:OsState):SharedT:=⟨aaq w.params,nat_lit 459,gZ,Array.mk [],⟨0,0,0,0⟩,nat_lit 824,os⟩
noncomputable def V0:HD.iV (HD.F4):=λw=>(λos=>segRunT treeTable pw (w.withFollow "special-get-raises" false) (nat_lit 11) (some (.ref 6)) (nat_lit 1) (nat_lit 400) (zl (w.withFollow "special-get-raises" false) os) (piecesOf MJ dN cB ⟨115,0,121,31⟩ dF),λos=>some (Flow.next,C9 (w.withFollow "special-get-raises" false) os,cB,⟨172,0,172,8⟩))
theorem Nz:(λw:World=>HD.seg pw (nat_lit 11) (some (.ref 6)) (nat_lit 400) zl C9 MJ dN cB ⟨115,0,121,31⟩ ⟨172,0,172,8⟩ dF (w.withFollow "special-get-raises" false))=V0:=by kernel_rfl
name_quick IX for V0 by Nz
theorem ab1(w:World):(Fast.IX w).1=(Fast.IX w).2:=by kernel_rfl
noncomputable def V9:HD.iV (HD.F4):=λw=>(λos=>segRunT treeTable pw (w.withFollow "special-get-raises" true) (nat_lit 11) (some (.ref 6)) (nat_lit 1) (nat_lit 400) (zl (w.withFollow "special-get-raises" true) os) (piecesOf MJ dN cB ⟨115,0,121,31⟩ dF),λos=>some (Flow.next,C9 (w.withFollow "special-get-raises" true) os,cB,⟨172,0,172,8⟩))
theorem Pq:(λw:World=>HD.seg pw (nat_lit 11) (some (.ref 6)) (nat_lit 400) zl C9 MJ dN cB ⟨115,0,121,31⟩ ⟨172,0,172,8⟩ dF (w.withFollow "special-get-raises" true))=V9:=by kernel_rfl
name_quick Kb for V9 by Pq
theorem abQ(w:World):(Fast.Kb w).1=(Fast.Kb w).2:=by kernel_rfl
theorem aeO:HD.Ok (HD.seg pw (nat_lit 11) (some (.ref 6)) (nat_lit 400) zl C9 MJ dN cB ⟨115,0,121,31⟩ ⟨172,0,172,8⟩ dF):=HD.LV "special-get-raises" Fast.IX_eq Fast.Kb_eq ab1 abQ
def Wo:=HD.dc [HD.e P Zx0 165 (.str cY 836),HD.e P Aa 166 .none,HD.e P Zx3 167 .none,HD.e P Zx4 168 (.builtin "__main__.__loader__#opaque"),HD.e P Zx5 169 .none,HD.e P Dj 170 (.ref 6),HD.e P EU 171 (.ref 4),HD.e P C6 173 (.str aV 172),HD.e P Dq 174 .none,HD.e P ku 193 (.ref 21),HD.e P mY 220 (.ref 38),HD.e P nN 243 (.ref 58),HD.e P nG 266 (.ref 77),HD.e P mX 289 (.ref 96),HD.e P ou 312 (.ref 115),HD.e P mw 335 (.ref 134),HD.e P nB 358 (.ref 153),HD.e P m5 381 (.ref 172),HD.e P og 404 (.ref 191),HD.e P oj 427 (.ref 210),HD.e P mP 450 (.ref 229),HD.e P nV 473 (.ref 248),HD.e P nW 496 (.ref 267),HD.e P mR 519 (.ref 286),HD.e P p8 542 (.ref 305),HD.e P Lc 546 (.int (.ofNat 600) 545),HD.e P IE 548 (.int (.ofNat 40) 547),HD.e P K9 550 (.int (.ofNat 99) 549),HD.e P Iq 615 (.ref 308),HD.e P OW 631 (.ref 328),HD.e P nK 638 (.ref 335),HD.e P nu 644 (.ref 340),HD.e P nE 651 (.ref 347),HD.e P mS 657 (.ref 352),HD.e P ny 663 (.ref 357),HD.e P n6 670 (.ref 364),HD.e P nU 678 (.ref 371),HD.e P nD 689 (.ref 378),HD.e P mr 699 (.ref 385),HD.e P m8 710 (.ref 392),HD.e P pN 719 (.ref 399),HD.e P qh 727 (.ref 404),HD.e P pS 739 (.ref 411),HD.e P qG 751 (.ref 418),HD.e P WM 782 (.ref 419),HD.e P pZ 793 (.ref 437),HD.e P qH 801 (.ref 444),HD.e P qd 810 (.ref 451),HD.e P qm 821 (.ref 458),HD.e P yi 835 (.ref 465),HD.e P xT 848 (.ref 472),HD.e P yN 855 (.ref 479),HD.e P xF 861 (.ref 484),HD.e P xa 872 (.ref 491),HD.e P xt 886 (.ref 498),HD.e P yJ 898 (.ref 505),HD.e P xx 911 (.ref 512),HD.e P xS 923 (.ref 519),HD.e P yK 934 (.ref 526),HD.e P xn 950 (.ref 533)] 60
def QB:=HD.fa (PY) [(HD.i 173),(HD.i 0),(.ref 464),(HD.i 181),(HD.i 0),(.ref 471),(HD.i 189),(HD.i 0),(.ref 478),(HD.i 195),(HD.i 0),(.ref 483),(HD.i 204),(HD.i 0),(.ref 490),(HD.i 215),(HD.i 0),(.ref 497),(HD.i 225),(HD.i 0),(.ref 504),(HD.i 228),(HD.i 0),(.ref 511),(HD.i 232),(HD.i 0),(.ref 518),(HD.i 235),(HD.i 0),(.ref 525),(HD.i 239),(HD.i 0),(.ref 532)]
def uR:=HD.tp [(.str ib 827),(.str aaR 828),(.str HR 829),(.str RB 830),(.str DL 831),(.str Ju 832)]
def HG:=HD.fs yi yi (ht 46)
def vG:=HD.cd yi yi aV 824 825 826 173 3 0 0 3 459 true 181 460 .none (.ref 461) (.ref 462) (.ref 463) 833 173 834
def rF:=HD.fu yi yi (ht 46) U9 822 464
def sU:=HD.tp [(.str gc 841),(.str f_ 842),(.str Lo 843),(.str abq 844),(.str acI 845)]
def HS:=HD.fs xT xT (ht 48)
def rV:=HD.cd xT xT aV 838 839 840 181 3 0 0 3 466 true 181 467 .none (.ref 468) (.ref 469) (.ref 470) 846 181 847
def wL:=HD.fu xT xT (ht 48) cY 836 471
def tO:=HD.tp [(.str Fc 852)]
def JN:=HD.fs yN yN (ht 49)
def tR:=HD.cd yN yN aV 849 850 851 189 1 0 0 3 473 true 181 474 .none (.ref 475) (.ref 476) (.ref 477) 853 189 854
def vJ:=HD.fu yN yN (ht 49) cY 836 478
def K2:=HD.fs xF xF (ht 50)
def wR:=HD.cd xF xF aV 856 857 858 195 2 0 0 3 480 true 181 481 .none .none .none (.ref 482) 859 195 860
def w6:=HD.fu xF xF (ht 50) cY 836 483
def tN:=HD.tp [(.str gc 865),(.str f_ 866),(.str lI 867),(.str jN 868),(.str yT 869)]
def KY:=HD.fs xa xa (ht 51)
def rj:=HD.cd xa xa aV 862 863 864 204 4 0 0 3 485 true 181 486 .none (.ref 487) (.ref 488) (.ref 489) 870 204 871
def s_:=HD.fu xa xa (ht 51) cY 836 490
def wA:=HD.tp [(.str gc 876),(.str f_ 877),(.str lH 878),(.str lI 879),(.str jN 880),(.str yT 881),(.str Nt 882),(.str Ah 883)]
def Jm:=HD.fs xt xt (ht 52)
def vY:=HD.cd xt xt aV 873 874 875 215 5 0 0 3 492 true 181 493 .none (.ref 494) (.ref 495) (.ref 496) 884 215 885
def sO:=HD.fu xt xt (ht 52) cY 836 497
def uG:=HD.tp [(.str gc 890),(.str f_ 891),(.str lH 892),(.str lI 893),(.str jN 894),(.str Ah 895)]
def KA:=HD.fs yJ yJ (ht 53)
def uH:=HD.cd yJ yJ aV 887 888 889 225 5 0 0 3 499 true 181 500 .none (.ref 501) (.ref 502) (.ref 503) 896 225 897
def tG:=HD.fu yJ yJ (ht 53) cY 836 504
def tZ:=HD.tp [(.str gc 902),(.str f_ 903),(.str lH 904),(.str lI 905),(.str jN 906),(.str Ah 907),(.str Nt 908)]
def J6:=HD.fs xx xx (ht 54)
def uW:=HD.cd xx xx aV 899 900 901 228 5 0 0 3 506 true 181 507 .none (.ref 508) (.ref 509) (.ref 510) 909 228 910
def wc:=HD.fu xx xx (ht 54) cY 836 511
def vd:=HD.tp [(.str gc 915),(.str f_ 916),(.str lH 917),(.str lI 918),(.str jN 919),(.str Ah 920)]
def Le:=HD.fs xS xS (ht 55)
def uV:=HD.cd xS xS aV 912 913 914 232 5 0 0 3 513 true 181 514 .none (.ref 515) (.ref 516) (.ref 517) 921 232 922
def wC:=HD.fu xS xS (ht 55) cY 836 518
def ue:=HD.tp [(.str gc 927),(.str f_ 928),(.str lH 929),(.str lI 930),(.str jN 931)]
def Jb:=HD.fs yK yK (ht 56)
def uc:=HD.cd yK yK aV 924 925 926 235 5 0 0 3 520 true 181 521 .none (.ref 522) (.ref 523) (.ref 524) 932 235 933
def uQ:=HD.fu yK yK (ht 56) cY 836 525
def tJ:=HD.tp [(.str gc 938),(.str f_ 939),(.str lH 940),(.str lI 941),(.str jN 942),(.str yT 943),(.str Fc 944),(.str Ah 945),(.str Nt 946),(.str adp 947)]
def IM:=HD.fs xn xn (ht 57)
def wG:=HD.cd xn xn aV 935 936 937 239 6 0 0 3 527 true 181 528 .none (.ref 529) (.ref 530) (.ref 531) 948 239 949
def uC:=HD.fu xn xn (ht 57) cY 836 532
noncomputable def Uv:List Stmt:=[ht 46,ht 47,ht 48,ht 49,ht 50,ht 51,ht 52,ht 53,ht 54,ht 55,ht 56,ht 57]
noncomputable def abn(P:Params):BT:=(HD.iy [af,aD,uR,af,HG,vG,rF,af,aD,sU,af,HS,rV,wL,af,aD,tO,af,JN,tR,vJ,af,aD,K2,wR,w6,af,aD,tN,af,KY,rj,s_,af,aD,wA,af,Jm,vY,sO,af,aD,uG,af,KA,uH,tG,af,aD,tZ,af,J6,uW,wc,af,aD,vd,af,Le,uV,wC,af,aD,ue,af,Jb,uc,uQ,af,aD,tJ,af,IM,wG,uC] (((aaq P).ins (nat_lit 3) (Wo P)).ins (nat_lit 12) (QB)) (nat_lit 459))
noncomputable abbrev L4(w:World)(os:OsState):SharedT:=⟨abn w.params,nat_lit 534,gZ,Array.mk [],⟨0,0,0,0⟩,nat_lit 951,os⟩
noncomputable def abo:HD.iV (HD.F4):=λw=>(λos=>segRunT treeTable pw w (nat_lit 11) (some (.ref 6)) (nat_lit 1) (nat_lit 375) (C9 w os) (piecesOf Uv dN cB ⟨172,0,172,8⟩ dF),λos=>some (Flow.next,L4 w os,cB,⟨239,0,250,134⟩))
theorem Uu:HD.seg pw (nat_lit 11) (some (.ref 6)) (nat_lit 375) C9 L4 Uv dN cB ⟨172,0,172,8⟩ ⟨239,0,250,134⟩ dF=abo:=by kernel_rfl
name_quick Pk for abo by Uu
theorem adO(w:World):(Fast.Pk w).1=(Fast.Pk w).2:=by kernel_rfl
theorem aee:HD.Ok (HD.seg pw (nat_lit 11) (some (.ref 6)) (nat_lit 375) C9 L4 Uv dN cB ⟨172,0,172,8⟩ ⟨239,0,250,134⟩ dF):=HD.iW Fast.Pk_eq adO
def Wn:=HD.dm (Wo P) [HD.e P yB 965 (.ref 540),HD.e P y_ 977 (.ref 547),HD.e P yQ 984 (.ref 554),HD.e P xl 996 (.ref 561),HD.e P yc 1004 (.ref 568),HD.e P xP 1016 (.ref 575),HD.e P ye 1028 (.ref 582),HD.e P y0 1038 (.ref 589),HD.e P zb 1053 (.ref 596),HD.e P xC 1062 (.ref 603),HD.e P yG 1074 (.ref 610),HD.e P yZ 1084 (.ref 617)] 72
def PR:=HD.fa (QB) [(HD.i 251),(HD.i 0),(.ref 539),(HD.i 272),(HD.i 0),(.ref 546),(HD.i 279),(HD.i 0),(.ref 553),(HD.i 283),(HD.i 0),(.ref 560),(HD.i 295),(HD.i 0),(.ref 567),(HD.i 298),(HD.i 0),(.ref 574),(HD.i 306),(HD.i 0),(.ref 581),(HD.i 312),(HD.i 0),(.ref 588),(HD.i 322),(HD.i 0),(.ref 595),(HD.i 333),(HD.i 0),(.ref 602),(HD.i 339),(HD.i 0),(.ref 609),(HD.i 346),(HD.i 0),(.ref 616)]
def sX:=HD.tp [(.str gc 954),(.str f_ 955),(.str lH 956),(.str lI 957),(.str jN 958),(.str yT 959),(.str abu 960),(.str aaC 961),(.str acG 962)]
def Ip:=HD.fs yB yB (ht 58)
def rZ:=HD.cd yB yB aV 951 952 953 251 6 0 0 3 534 true 181 535 .none (.ref 536) (.ref 537) (.ref 538) 963 251 964
def uo:=HD.fu yB yB (ht 58) cY 836 539
def sL:=HD.tp [(.str gc 969),(.str f_ 970),(.str lH 971),(.str lI 972),(.str jN 973),(.str yT 974)]
def J4:=HD.fs y_ y_ (ht 59)
def rM:=HD.cd y_ y_ aV 966 967 968 272 5 0 0 3 541 true 181 542 .none (.ref 543) (.ref 544) (.ref 545) 975 272 976
def wF:=HD.fu y_ y_ (ht 59) cY 836 546
def wN:=HD.tp [(.str oq 981)]
def Ke:=HD.fs yQ yQ (ht 60)
def vF:=HD.cd yQ yQ aV 978 979 980 279 1 0 0 3 548 true 181 549 .none (.ref 550) (.ref 551) (.ref 552) 982 279 983
def tI:=HD.fu yQ yQ (ht 60) cY 836 553
def rR:=HD.tp [(.str oq 988),(.str aaQ 989),(.str lH 990),(.str abW 991),(.str acA 992),(.str VR 993)]
def JQ:=HD.fs xl xl (ht 61)
def r_:=HD.cd xl xl aV 985 986 987 283 1 0 0 3 555 true 181 556 .none (.ref 557) (.ref 558) (.ref 559) 994 283 995
def wI:=HD.fu xl xl (ht 61) cY 836 560
def rQ:=HD.tp [(.str oq 1000),(.str VR 1001)]
def Lm:=HD.fs yc yc (ht 62)
def sV:=HD.cd yc yc aV 997 998 999 295 1 0 0 3 562 true 181 563 .none (.ref 564) (.ref 565) (.ref 566) 1002 295 1003
def wD:=HD.fu yc yc (ht 62) cY 836 567
def sF:=HD.tp [(.str gc 1008),(.str f_ 1009),(.str lH 1010),(.str lI 1011),(.str jN 1012),(.str abi 1013)]
def KS:=HD.fs xP xP (ht 63)
def rO:=HD.cd xP xP aV 1005 1006 1007 298 5 0 0 3 569 true 181 570 .none (.ref 571) (.ref 572) (.ref 573) 1014 298 1015
def rY:=HD.fu xP xP (ht 63) cY 836 574
def wy:=HD.tp [(.str gc 1020),(.str f_ 1021),(.str jN 1022),(.str zR 1023),(.str Nl 1024),(.str Ah 1025)]
def Jx:=HD.fs ye ye (ht 64)
def tW:=HD.cd ye ye aV 1017 1018 1019 306 3 0 0 3 576 true 181 577 .none (.ref 578) (.ref 579) (.ref 580) 1026 306 1027
def wx:=HD.fu ye ye (ht 64) cY 836 581
def vn:=HD.tp [(.str oq 1032),(.str zR 1033),(.str Fc 1034),(.str acJ 1035)]
def Ko:=HD.fs y0 y0 (ht 65)
def v_:=HD.cd y0 y0 aV 1029 1030 1031 312 2 0 0 3 583 true 181 584 .none (.ref 585) (.ref 586) (.ref 587) 1036 312 1037
def wY:=HD.fu y0 y0 (ht 65) cY 836 588
def tm:=HD.tp [(.str oq 1042),(.str zR 1043),(.str QC 1044),(.str acp 1045),(.str acC 1046),(.str ac_ 1047),(.str aci 1048),(.str aba 1049),(.str ach 1050)]
def KR:=HD.fs zb zb (ht 66)
def uL:=HD.cd zb zb aV 1039 1040 1041 322 2 0 0 3 590 true 181 591 .none (.ref 592) (.ref 593) (.ref 594) 1051 322 1052
def tu:=HD.fu zb zb (ht 66) cY 836 595
def vR:=HD.tp [(.str VX 1057),(.str QC 1058),(.str abh 1059)]
def HH:=HD.fs xC xC (ht 67)
def vI:=HD.cd xC xC aV 1054 1055 1056 333 1 0 0 3 597 true 181 598 .none (.ref 599) (.ref 600) (.ref 601) 1060 333 1061
def vo:=HD.fu xC xC (ht 67) cY 836 602
def wq:=HD.tp [(.str Lo 1066),(.str zR 1067),(.str adi 1068),(.str Nl 1069),(.str acB 1070),(.str Fc 1071)]
def IQ:=HD.fs yG yG (ht 68)
def sR:=HD.cd yG yG aV 1063 1064 1065 339 2 0 0 3 604 true 181 605 .none (.ref 606) (.ref 607) (.ref 608) 1072 339 1073
def vj:=HD.fu yG yG (ht 68) cY 836 609
def uX:=HD.tp [(.str gc 1078),(.str f_ 1079),(.str oq 1080),(.str yT 1081)]
def IV:=HD.fs yZ yZ (ht 69)
def tY:=HD.cd yZ yZ aV 1075 1076 1077 346 3 0 0 3 611 true 181 612 .none (.ref 613) (.ref 614) (.ref 615) 1082 346 1083
def uT:=HD.fu yZ yZ (ht 69) cY 836 616
noncomputable def TZ:List Stmt:=[ht 58,ht 59,ht 60,ht 61,ht 62,ht 63,ht 64,ht 65,ht 66,ht 67,ht 68,ht 69]
noncomputable def aap(P:Params):BT:=(HD.iy [af,aD,sX,af,Ip,rZ,uo,af,aD,sL,af,J4,rM,wF,af,aD,wN,af,Ke,vF,tI,af,aD,rR,af,JQ,r_,wI,af,aD,rQ,af,Lm,sV,wD,af,aD,sF,af,KS,rO,rY,af,aD,wy,af,Jx,tW,wx,af,aD,vn,af,Ko,v_,wY,af,aD,tm,af,KR,uL,tu,af,aD,vR,af,HH,vI,vo,af,aD,wq,af,IQ,sR,vj,af,aD,uX,af,IV,tY,uT] (((abn P).ins (nat_lit 3) (Wn P)).ins (nat_lit 12) (PR)) (nat_lit 534))
noncomputable abbrev L9(w:World)(os:OsState):SharedT:=⟨aap w.params,nat_lit 618,gZ,Array.mk [],⟨0,0,0,0⟩,nat_lit 1085,os⟩
noncomputable def ab2:HD.iV (HD.F4):=λw=>(λos=>segRunT treeTable pw w (nat_lit 11) (some (.ref 6)) (nat_lit 1) (nat_lit 399) (L4 w os) (piecesOf TZ dN cB ⟨239,0,250,134⟩ dF),λos=>some (Flow.next,L9 w os,cB,⟨346,0,356,120⟩))
theorem Tv:HD.seg pw (nat_lit 11) (some (.ref 6)) (nat_lit 399) L4 L9 TZ dN cB ⟨239,0,250,134⟩ ⟨346,0,356,120⟩ dF=ab2:=by kernel_rfl
name_quick Rb for ab2 by Tv
theorem ae0(w:World):(Fast.Rb w).1=(Fast.Rb w).2:=by kernel_rfl
theorem ae6:HD.Ok (HD.seg pw (nat_lit 11) (some (.ref 6)) (nat_lit 399) L4 L9 TZ dN cB ⟨239,0,250,134⟩ ⟨346,0,356,120⟩ dF):=HD.iW Fast.Rb_eq ae0
def Jd:=HD.dm (Wn P) [HD.e P xQ 1095 (.ref 624),HD.e P yz 1101 (.ref 629),HD.e P yP 1117 (.ref 636),HD.e P w_ 1123 (.ref 641),HD.e P yX 1133 (.ref 648),HD.e P xh 1150 (.ref 655)] 78
def Rr:=HD.fa (PR) [(HD.i 357),(HD.i 0),(.ref 623),(HD.i 366),(HD.i 0),(.ref 628),(HD.i 379),(HD.i 0),(.ref 635),(HD.i 399),(HD.i 0),(.ref 640),(HD.i 411),(HD.i 0),(.ref 647),(HD.i 416),(HD.i 0),(.ref 654)]
def wM:=HD.tp [(.str gc 1088),(.str f_ 1089),(.str oq 1090),(.str Lo 1091),(.str Nl 1092)]
def Hw:=HD.fs xQ xQ (ht 70)
def rP:=HD.cd xQ xQ aV 1085 1086 1087 357 3 0 0 3 618 true 181 619 .none (.ref 620) (.ref 621) (.ref 622) 1093 357 1094
def vM:=HD.fu xQ xQ (ht 70) cY 836 623
def Jz:=HD.fs yz yz (ht 71)
def sg:=HD.cd yz yz aV 1096 1097 1098 366 4 0 0 3 625 true 181 626 .none .none .none (.ref 627) 1099 366 1100
def vZ:=HD.fu yz yz (ht 71) cY 836 628
def rE:=HD.tp [(.str gc 1105),(.str f_ 1106),(.str NQ 1107),(.str acq 1108),(.str ada 1109),(.str yT 1110),(.str abP 1111),(.str aa0 1112),(.str Fc 1113),(.str acs 1114)]
def KH:=HD.fs yP yP (ht 72)
def tF:=HD.cd yP yP aV 1102 1103 1104 379 4 0 0 3 630 true 181 631 .none (.ref 632) (.ref 633) (.ref 634) 1115 379 1116
def uF:=HD.fu yP yP (ht 72) cY 836 635
def Jq:=HD.fs w_ w_ (ht 73)
def vN:=HD.cd w_ w_ aV 1118 1119 1120 399 3 0 0 3 637 true 181 638 .none .none .none (.ref 639) 1121 399 1122
def uI:=HD.fu w_ w_ (ht 73) cY 836 640
def wu:=HD.tp [(.str oq 1127),(.str NQ 1128),(.str zR 1129),(.str VX 1130)]
def Iv:=HD.fs yX yX (ht 74)
def vW:=HD.cd yX yX aV 1124 1125 1126 411 3 0 0 3 642 true 181 643 .none (.ref 644) (.ref 645) (.ref 646) 1131 411 1132
def vm:=HD.fu yX yX (ht 74) cY 836 647
def uN:=HD.tp [(.str gc 1137),(.str f_ 1138),(.str jN 1139),(.str zR 1140),(.str oq 1141),(.str NQ 1142),(.str Lo 1143),(.str ads 1144),(.str aco 1145),(.str QC 1146),(.str acF 1147)]
def HY:=HD.fs xh xh (ht 75)
def tS:=HD.cd xh xh aV 1134 1135 1136 416 1 0 0 3 649 true 181 650 .none (.ref 651) (.ref 652) (.ref 653) 1148 416 1149
def vx:=HD.fu xh xh (ht 75) cY 836 654
noncomputable def Sx:List Stmt:=[ht 70,ht 71,ht 72,ht 73,ht 74,ht 75]
noncomputable def aeU(P:Params):BT:=(HD.iy [af,aD,wM,af,Hw,rP,vM,af,aD,Jz,sg,vZ,af,aD,rE,af,KH,tF,uF,af,aD,Jq,vN,uI,af,aD,wu,af,Iv,vW,vm,af,aD,uN,af,HY,tS,vx] (((aap P).ins (nat_lit 3) (Jd P)).ins (nat_lit 12) (Rr)) (nat_lit 618))
noncomputable abbrev LP(w:World)(os:OsState):SharedT:=⟨aeU w.params,nat_lit 656,gZ,Array.mk [],⟨0,0,0,0⟩,nat_lit 1151,os⟩
noncomputable def ab5:HD.iV (HD.F4):=λw=>(λos=>segRunT treeTable pw w (nat_lit 11) (some (.ref 6)) (nat_lit 1) (nat_lit 195) (L9 w os) (piecesOf Sx dN cB ⟨346,0,356,120⟩ dF),λos=>some (Flow.next,LP w os,cB,⟨416,0,439,83⟩))
theorem Tc:HD.seg pw (nat_lit 11) (some (.ref 6)) (nat_lit 195) L9 LP Sx dN cB ⟨346,0,356,120⟩ ⟨416,0,439,83⟩ dF=ab5:=by kernel_rfl
name_quick Rv for ab5 by Tc
theorem aev(w:World):(Fast.Rv w).1=(Fast.Rv w).2:=by kernel_rfl
theorem adS:HD.Ok (HD.seg pw (nat_lit 11) (some (.ref 6)) (nat_lit 195) L9 LP Sx dN cB ⟨346,0,356,120⟩ ⟨416,0,439,83⟩ dF):=HD.iW Fast.Rv_eq aev
noncomputable def aaJ(r:List (Obj)):List (Obj):=PySem.W.boot_o_0 P::PySem.W.boot_o_1 P::PySem.W.boot_o_2 P::Jd P::PySem.W.boot_o_4 P::PySem.W.boot_o_5 P::PySem.W.boot_o_6 P::PySem.W.boot_o_7 P::PySem.W.boot_o_8 P::PySem.W.boot_o_9 P::PySem.W.boot_o_10 P::af::r
noncomputable def acK(r:List (Obj)):List (Obj):=Rr::O1::QI::af::aD::J5::af::UM::HV::IZ::Hz::cS::r
noncomputable def aaX(r:List (Obj)):List (Obj):=U3 P::af::Wq::Wa::Vg::af::aD::JH::af::US::JF::KC::r
noncomputable def ace(r:List (Obj)):List (Obj):=af::Kx P::CA::Lf::Vn::Wc::bw::cS::U_ P::af::Wv::VH::r
noncomputable def acQ(r:List (Obj)):List (Obj):=V8::af::aD::I_::af::WV::Ji::Ia::af::HI P::II::V4::r
noncomputable def abY(r:List (Obj)):List (Obj):=V5::bw::cS::Wt P::af::WN::UL::We::af::aD::Kc::af::r
noncomputable def aay(r:List (Obj)):List (Obj):=VJ::Ll::IY::af::JL P::K6::WJ::U6::bw::cS::U5 P::af::r
noncomputable def abN(r:List (Obj)):List (Obj):=UO::WY::Vj::af::aD::KP::af::UZ::Hv::Iy::af::Ld P::r
noncomputable def aau(r:List (Obj)):List (Obj):=IP::VD::Vp::bw::cS::OL P::af::RG::Rn::RR::af::aD::r
noncomputable def abk(r:List (Obj)):List (Obj):=A2::af::O3::Bz::AS::af::A7 P::Bf::Ox::RV::bw::cS::r
noncomputable def Y2(r:List (Obj)):List (Obj):=NO P::af::Ri::Nr::P6::af::aD::A3::af::PQ::BQ::BG::r
noncomputable def aal(r:List (Obj)):List (Obj):=af::BD P::CJ::Pc::Qh::bw::cS::Nu P::af::N3::Qc::RC::r
noncomputable def Xf(r:List (Obj)):List (Obj):=af::aD::Bg::af::QL::CO::Be::af::CH P::B6::Q3::OJ::r
noncomputable def ZR(r:List (Obj)):List (Obj):=bw::cS::QA P::af::RU::QM::Qz::af::aD::CC::af::OV::r
noncomputable def aab(r:List (Obj)):List (Obj):=Cp::Ce::af::CG P::B0::NZ::Qm::bw::cS::OE P::af::Pe::r
noncomputable def X2(r:List (Obj)):List (Obj):=Q_::Rk::af::aD::Br::af::Qv::Cn::BI::af::Bt P::AK::r
noncomputable def XQ(r:List (Obj)):List (Obj):=Pj::Ry::bw::cS::Il P::af::K7::Iz::JE::af::aD::wa::r
noncomputable def XY(r:List (Obj)):List (Obj):=af::K8::rS::vf::af::tH P::vS::Ls::JA::bw::cS::KW P::r
noncomputable def Zw(r:List (Obj)):List (Obj):=af::HE::IF::KL::af::aD::wj::af::Kr::tQ::vp::af::r
noncomputable def XW(r:List (Obj)):List (Obj):=uJ P::qY::KQ::KU::bw::cS::JD P::af::HX::Kk::IG::af::r
noncomputable def X_(r:List (Obj)):List (Obj):=aD::uY::af::IW::tX::rK::af::vQ P::se::IB::La::bw::r
noncomputable def YC(r:List (Obj)):List (Obj):=cS::J8 P::af::Jv::Ks::KO::af::aD::sG::af::Jr::wm::r
noncomputable def XG(r:List (Obj)):List (Obj):=wJ::af::uS P::wB::Jk::K1::bw::cS::Lb P::af::Ig::JG::r
noncomputable def Xh(r:List (Obj)):List (Obj):=Ki::af::aD::vb::af::IU::vw::tE::af::wO P::so::H_::r
noncomputable def W7(r:List (Obj)):List (Obj):=JT::bw::cS::Kt P::af::Kn::Jj::HA::af::aD::vL::af::r
noncomputable def Zj(r:List (Obj)):List (Obj):=Km::wK::wQ::af::tD P::vP::JO::Jh::sY P::af::af::uO::r
noncomputable def W0(r:List (Obj)):List (Obj):=ua::q_::af::vT::tM::af::sW::sd::rX::vy::sE::uU::r
noncomputable def XR(r:List (Obj)):List (Obj):=rL::vc::IH P::af::rH P::af::aD::r8::af::Ii::qZ::ve::r
noncomputable def aah(r:List (Obj)):List (Obj):=af::aD::Lk::sD::sQ::af::aD::wH::af::HK::sZ::tT::r
noncomputable def YM(r:List (Obj)):List (Obj):=af::aD::JV::sI::uw::af::aD::Kz::t_::vg::af::aD::r
noncomputable def aan(r:List (Obj)):List (Obj):=uq::af::Kw::vi::sA::af::aD::rg::af::Jc::tw::vv::r
noncomputable def Zl(r:List (Obj)):List (Obj):=af::aD::sP::af::Ie::vV::wX::af::aD::sM::af::Kf::r
noncomputable def ZA(r:List (Obj)):List (Obj):=rT::wZ::af::aD::rC::af::KJ::ub::uK::af::aD::si::r
noncomputable def X9(r:List (Obj)):List (Obj):=af::Ja::sf::sH::af::aD::Lj::sj::uM::af::aD::sN::r
noncomputable def Zm(r:List (Obj)):List (Obj):=vH::J7::rJ::sk::af::aD::wV::sr::Lq::tU::rN::tK P::r
noncomputable def Yh(r:List (Obj)):List (Obj):=ux::sS::uP::wg::uA::vO::uZ::rm::vX::wt::ur::af::r
noncomputable def Yx(r:List (Obj)):List (Obj):=aD::uv::af::HP::u_::sT::af::aD::vh::af::KG::uz::r
noncomputable def Xi(r:List (Obj)):List (Obj):=sJ::af::aD::tP::af::HU::vz::ug::af::aD::vU::af::r
noncomputable def YE(r:List (Obj)):List (Obj):=Ij::tV::rD::af::aD::uR::af::HG::vG::rF::af::aD::r
noncomputable def YI(r:List (Obj)):List (Obj):=sU::af::HS::rV::wL::af::aD::tO::af::JN::tR::vJ::r
noncomputable def Zx(r:List (Obj)):List (Obj):=af::aD::K2::wR::w6::af::aD::tN::af::KY::rj::s_::r
noncomputable def XA(r:List (Obj)):List (Obj):=af::aD::wA::af::Jm::vY::sO::af::aD::uG::af::KA::r
noncomputable def Xu(r:List (Obj)):List (Obj):=uH::tG::af::aD::tZ::af::J6::uW::wc::af::aD::vd::r
noncomputable def Xs(r:List (Obj)):List (Obj):=af::Le::uV::wC::af::aD::ue::af::Jb::uc::uQ::af::r
noncomputable def Xj(r:List (Obj)):List (Obj):=aD::tJ::af::IM::wG::uC::af::aD::sX::af::Ip::rZ::r
noncomputable def W6(r:List (Obj)):List (Obj):=uo::af::aD::sL::af::J4::rM::wF::af::aD::wN::af::r
noncomputable def Xn(r:List (Obj)):List (Obj):=Ke::vF::tI::af::aD::rR::af::JQ::r_::wI::af::aD::r
noncomputable def ZH(r:List (Obj)):List (Obj):=rQ::af::Lm::sV::wD::af::aD::sF::af::KS::rO::rY::r
noncomputable def ZQ(r:List (Obj)):List (Obj):=af::aD::wy::af::Jx::tW::wx::af::aD::vn::af::Ko::r
noncomputable def Zb(r:List (Obj)):List (Obj):=v_::wY::af::aD::tm::af::KR::uL::tu::af::aD::vR::r
noncomputable def aac(r:List (Obj)):List (Obj):=af::HH::vI::vo::af::aD::wq::af::IQ::sR::vj::af::r
noncomputable def YO(r:List (Obj)):List (Obj):=aD::uX::af::IV::tY::uT::af::aD::wM::af::Hw::rP::r
noncomputable def Y9(r:List (Obj)):List (Obj):=vM::af::aD::Jz::sg::vZ::af::aD::rE::af::KH::tF::r
noncomputable def Xx(r:List (Obj)):List (Obj):=uF::af::aD::Jq::vN::uI::af::aD::wu::af::Iv::vW::r
noncomputable def aad(r:List (Obj)):List (Obj):=vm::af::aD::uN::af::HY::tS::vx::r
noncomputable def Sb(P:Params):Heap:=⟨Array.mk (aaJ P (acK (aaX P (ace P (acQ P (abY P (aay P (abN P (aau P (abk P (Y2 P (aal P (Xf P (ZR P (aab P (X2 P (XQ P (XY P (Zw (XW P (X_ P (YC P (XG P (Xh P (W7 P (Zj P (W0 (XR P (aah (YM (aan (Zl (ZA (X9 (Zm P (Yh (Yx (Xi (YE (YI (Zx (XA (Xu (Xs (Xj (W6 (Xn (ZH (ZQ (Zb (aac (YO (Y9 (Xx (aad []))))))))))))))))))))))))))))))))))))))))))))))))))))))),⟨[],[],[],0,[],[],false,#[],[],0,false,false,false,(.ofNat 0),[(.ofNat 2000),(.ofNat 10),(.ofNat 10)],false,0,true,[],[],0,false⟩⟩
noncomputable def Z9:Drawn:=⟨0,0,0,0⟩
noncomputable def YG:Nat:=nat_lit 1151
noncomputable abbrev Vf:World->OsState->Shared:=HD.mkS Sb Z9 YG
noncomputable def Zqz:HD.iV (Option Shared):=λw=>(λos=>topRun treeTable pw w (nat_lit 11) (some (.ref 6)) (nat_lit 2) (LP w os).abs (Thread.mk (doneF Flow.next) cB ⟨416,0,439,83⟩ dF),λos=>some (Vf w os))
theorem YZ:HD.fin pw (nat_lit 11) (some (.ref 6)) (nat_lit 2) LP Vf (Thread.mk (doneF Flow.next) cB ⟨416,0,439,83⟩ dF)=Zqz:=by kernel_rfl
name_quick VO for Zqz by YZ
theorem Ziz(w:World):(Fast.VO w).1=(Fast.VO w).2:=by kernel_rfl
theorem Zhz:HD.Ok (HD.fin pw (nat_lit 11) (some (.ref 6)) (nat_lit 2) LP Vf (Thread.mk (doneF Flow.next) cB ⟨416,0,439,83⟩ dF)):=HD.iW Fast.VO_eq Ziz
theorem aeN:behindTheImports pw=(Zg1++(Zg2++(Zg3++(Zg4++(Zg5++(Zg6++(Zg7++(Zg8++(Zg9++(SG++(Uz++(S6++(SO++(S7++(Sh++(L8++(MW++(MJ++(Uv++(TZ++(Sx++([]:List Stmt)))))))))))))))))))))):=by kernel_rfl
theorem abw:HD.Goes pw (nat_lit 11) (some (.ref 6)) Vf (nat_lit 12+(nat_lit 1+(nat_lit 255+(nat_lit 244+(nat_lit 244+(nat_lit 244+(nat_lit 244+(nat_lit 244+(nat_lit 244+(nat_lit 244+(nat_lit 244+(nat_lit 244+(nat_lit 244+(nat_lit 244+(nat_lit 244+(nat_lit 244+(nat_lit 280+(nat_lit 340+(nat_lit 386+(nat_lit 400+(nat_lit 375+(nat_lit 399+(nat_lit 195+(nat_lit 2)))))))))))))))))))))))) ZS0 (topStub pw):=HD.abH Zha (HD.aaT aeN Zhb (HD.eC Zh1 (HD.eC Zh2 (HD.eC Zh3 (HD.eC Zh4 (HD.eC Zh5 (HD.eC Zh6 (HD.eC Zh7 (HD.eC Zh8 (HD.eC Zh9 (HD.eC ad2 (HD.eC aeM (HD.eC adI (HD.eC aeD (HD.eC aei (HD.eC aff (HD.eC aeu (HD.eC adF (HD.eC aeO (HD.eC aee (HD.eC ae6 (HD.eC adS (HD.adq (env:=dN) Zhz)))))))))))))))))))))))
noncomputable def hq:Program:=HD.view pw [ht 0,ht 2,ht 3,ht 4,ht 5,ht 6,ht 7,ht 8,ht 9,ht 10,ht 11,ht 12,ht 13,ht 14,ht 15,ht 16,ht 18,ht 19,ht 20,ht 21,ht 22,ht 23,ht 24,ht 25,ht 26,ht 27,ht 28,ht 29,ht 31,ht 32,ht 33,ht 34,ht 36,ht 37,ht 38,ht 40,ht 41,ht 42,ht 43,ht 44,ht 46,ht 48,ht 49,ht 50,ht 51,ht 52,ht 53,ht 54,ht 55,ht 56,ht 57,ht 58,ht 59,ht 60,ht 61,ht 62,ht 63,ht 64,ht 65,ht 66,ht 67,ht 68,ht 69,ht 70,ht 71,ht 72,ht 73,ht 74,ht 75]
noncomputable def hl:List Str:=[PySem.Str.ofString "KIDS_DUE",PySem.Str.ofString "BINDER_OVER",PySem.Str.ofString "RULES"]
noncomputable def ack(r:List (Addr×Obj)):List (Addr×Obj):=(nat_lit 2,PySem.W.boot_o_2 P)::(nat_lit 3,Jd P)::(nat_lit 15,af)::(nat_lit 17,J5)::(nat_lit 18,af)::(nat_lit 20,HV)::(nat_lit 21,IZ)::(nat_lit 22,Hz)::(nat_lit 29,af)::(nat_lit 31,JH)::(nat_lit 32,af)::(nat_lit 34,JF)::r
noncomputable def adt(r:List (Addr×Obj)):List (Addr×Obj):=(nat_lit 35,KC)::(nat_lit 36,af)::(nat_lit 37,Kx P)::(nat_lit 38,CA)::(nat_lit 39,Lf)::(nat_lit 42,bw)::(nat_lit 49,af)::(nat_lit 51,I_)::(nat_lit 52,af)::(nat_lit 54,Ji)::(nat_lit 55,Ia)::(nat_lit 56,af)::r
noncomputable def aaA(r:List (Addr×Obj)):List (Addr×Obj):=(nat_lit 57,HI P)::(nat_lit 58,II)::(nat_lit 61,bw)::(nat_lit 68,af)::(nat_lit 70,Kc)::(nat_lit 71,af)::(nat_lit 73,Ll)::(nat_lit 74,IY)::(nat_lit 75,af)::(nat_lit 76,JL P)::(nat_lit 77,K6)::(nat_lit 80,bw)::r
noncomputable def ac5(r:List (Addr×Obj)):List (Addr×Obj):=(nat_lit 87,af)::(nat_lit 89,KP)::(nat_lit 90,af)::(nat_lit 92,Hv)::(nat_lit 93,Iy)::(nat_lit 94,af)::(nat_lit 95,Ld P)::(nat_lit 96,IP)::(nat_lit 99,bw)::(nat_lit 106,af)::(nat_lit 108,A2)::(nat_lit 109,af)::r
noncomputable def acR(r:List (Addr×Obj)):List (Addr×Obj):=(nat_lit 111,Bz)::(nat_lit 112,AS)::(nat_lit 113,af)::(nat_lit 114,A7 P)::(nat_lit 115,Bf)::(nat_lit 118,bw)::(nat_lit 125,af)::(nat_lit 127,A3)::(nat_lit 128,af)::(nat_lit 130,BQ)::(nat_lit 131,BG)::(nat_lit 132,af)::r
noncomputable def aa6(r:List (Addr×Obj)):List (Addr×Obj):=(nat_lit 133,BD P)::(nat_lit 134,CJ)::(nat_lit 137,bw)::(nat_lit 144,af)::(nat_lit 146,Bg)::(nat_lit 147,af)::(nat_lit 149,CO)::(nat_lit 150,Be)::(nat_lit 151,af)::(nat_lit 152,CH P)::(nat_lit 153,B6)::(nat_lit 156,bw)::r
noncomputable def abg(r:List (Addr×Obj)):List (Addr×Obj):=(nat_lit 163,af)::(nat_lit 165,CC)::(nat_lit 166,af)::(nat_lit 168,Cp)::(nat_lit 169,Ce)::(nat_lit 170,af)::(nat_lit 171,CG P)::(nat_lit 172,B0)::(nat_lit 175,bw)::(nat_lit 182,af)::(nat_lit 184,Br)::(nat_lit 185,af)::r
noncomputable def abV(r:List (Addr×Obj)):List (Addr×Obj):=(nat_lit 187,Cn)::(nat_lit 188,BI)::(nat_lit 189,af)::(nat_lit 190,Bt P)::(nat_lit 191,AK)::(nat_lit 194,bw)::(nat_lit 201,af)::(nat_lit 203,wa)::(nat_lit 204,af)::(nat_lit 206,rS)::(nat_lit 207,vf)::(nat_lit 208,af)::r
noncomputable def ac8(r:List (Addr×Obj)):List (Addr×Obj):=(nat_lit 209,tH P)::(nat_lit 210,vS)::(nat_lit 213,bw)::(nat_lit 220,af)::(nat_lit 222,wj)::(nat_lit 223,af)::(nat_lit 225,tQ)::(nat_lit 226,vp)::(nat_lit 227,af)::(nat_lit 228,uJ P)::(nat_lit 229,qY)::(nat_lit 232,bw)::r
noncomputable def ab8(r:List (Addr×Obj)):List (Addr×Obj):=(nat_lit 239,af)::(nat_lit 241,uY)::(nat_lit 242,af)::(nat_lit 244,tX)::(nat_lit 245,rK)::(nat_lit 246,af)::(nat_lit 247,vQ P)::(nat_lit 248,se)::(nat_lit 251,bw)::(nat_lit 258,af)::(nat_lit 260,sG)::(nat_lit 261,af)::r
noncomputable def aao(r:List (Addr×Obj)):List (Addr×Obj):=(nat_lit 263,wm)::(nat_lit 264,wJ)::(nat_lit 265,af)::(nat_lit 266,uS P)::(nat_lit 267,wB)::(nat_lit 270,bw)::(nat_lit 277,af)::(nat_lit 279,vb)::(nat_lit 280,af)::(nat_lit 282,vw)::(nat_lit 283,tE)::(nat_lit 284,af)::r
noncomputable def ZF(r:List (Addr×Obj)):List (Addr×Obj):=(nat_lit 285,wO P)::(nat_lit 286,so)::(nat_lit 289,bw)::(nat_lit 296,af)::(nat_lit 298,vL)::(nat_lit 299,af)::(nat_lit 301,wK)::(nat_lit 302,wQ)::(nat_lit 303,af)::(nat_lit 304,tD P)::(nat_lit 305,vP)::(nat_lit 308,sY P)::r
noncomputable def YS(r:List (Addr×Obj)):List (Addr×Obj):=(nat_lit 309,af)::(nat_lit 310,af)::(nat_lit 311,uO)::(nat_lit 312,ua)::(nat_lit 313,q_)::(nat_lit 314,af)::(nat_lit 315,vT)::(nat_lit 316,tM)::(nat_lit 317,af)::(nat_lit 318,sW)::(nat_lit 319,sd)::(nat_lit 320,rX)::r
noncomputable def ZN(r:List (Addr×Obj)):List (Addr×Obj):=(nat_lit 321,vy)::(nat_lit 322,sE)::(nat_lit 323,uU)::(nat_lit 324,rL)::(nat_lit 325,vc)::(nat_lit 327,af)::(nat_lit 328,rH P)::(nat_lit 329,af)::(nat_lit 331,r8)::(nat_lit 332,af)::(nat_lit 334,qZ)::(nat_lit 335,ve)::r
noncomputable def Y7(r:List (Addr×Obj)):List (Addr×Obj):=(nat_lit 336,af)::(nat_lit 339,sD)::(nat_lit 340,sQ)::(nat_lit 341,af)::(nat_lit 343,wH)::(nat_lit 344,af)::(nat_lit 346,sZ)::(nat_lit 347,tT)::(nat_lit 348,af)::(nat_lit 351,sI)::(nat_lit 352,uw)::(nat_lit 353,af)::r
noncomputable def Za(r:List (Addr×Obj)):List (Addr×Obj):=(nat_lit 356,t_)::(nat_lit 357,vg)::(nat_lit 358,af)::(nat_lit 360,uq)::(nat_lit 361,af)::(nat_lit 363,vi)::(nat_lit 364,sA)::(nat_lit 365,af)::(nat_lit 367,rg)::(nat_lit 368,af)::(nat_lit 370,tw)::(nat_lit 371,vv)::r
noncomputable def XC(r:List (Addr×Obj)):List (Addr×Obj):=(nat_lit 372,af)::(nat_lit 374,sP)::(nat_lit 375,af)::(nat_lit 377,vV)::(nat_lit 378,wX)::(nat_lit 379,af)::(nat_lit 381,sM)::(nat_lit 382,af)::(nat_lit 384,rT)::(nat_lit 385,wZ)::(nat_lit 386,af)::(nat_lit 388,rC)::r
noncomputable def Xb(r:List (Addr×Obj)):List (Addr×Obj):=(nat_lit 389,af)::(nat_lit 391,ub)::(nat_lit 392,uK)::(nat_lit 393,af)::(nat_lit 395,si)::(nat_lit 396,af)::(nat_lit 398,sf)::(nat_lit 399,sH)::(nat_lit 400,af)::(nat_lit 403,sj)::(nat_lit 404,uM)::(nat_lit 405,af)::r
noncomputable def Xy(r:List (Addr×Obj)):List (Addr×Obj):=(nat_lit 407,sN)::(nat_lit 408,vH)::(nat_lit 410,rJ)::(nat_lit 411,sk)::(nat_lit 412,af)::(nat_lit 414,wV)::(nat_lit 415,sr)::(nat_lit 417,tU)::(nat_lit 418,rN)::(nat_lit 419,tK P)::(nat_lit 420,ux)::(nat_lit 421,sS)::r
noncomputable def ZV(r:List (Addr×Obj)):List (Addr×Obj):=(nat_lit 422,uP)::(nat_lit 423,wg)::(nat_lit 424,uA)::(nat_lit 425,vO)::(nat_lit 426,uZ)::(nat_lit 427,rm)::(nat_lit 428,vX)::(nat_lit 429,wt)::(nat_lit 430,ur)::(nat_lit 431,af)::(nat_lit 433,uv)::(nat_lit 434,af)::r
noncomputable def Z5(r:List (Addr×Obj)):List (Addr×Obj):=(nat_lit 436,u_)::(nat_lit 437,sT)::(nat_lit 438,af)::(nat_lit 440,vh)::(nat_lit 441,af)::(nat_lit 443,uz)::(nat_lit 444,sJ)::(nat_lit 445,af)::(nat_lit 447,tP)::(nat_lit 448,af)::(nat_lit 450,vz)::(nat_lit 451,ug)::r
noncomputable def ZO(r:List (Addr×Obj)):List (Addr×Obj):=(nat_lit 452,af)::(nat_lit 454,vU)::(nat_lit 455,af)::(nat_lit 457,tV)::(nat_lit 458,rD)::(nat_lit 459,af)::(nat_lit 461,uR)::(nat_lit 462,af)::(nat_lit 464,vG)::(nat_lit 465,rF)::(nat_lit 466,af)::(nat_lit 468,sU)::r
noncomputable def Z6(r:List (Addr×Obj)):List (Addr×Obj):=(nat_lit 469,af)::(nat_lit 471,rV)::(nat_lit 472,wL)::(nat_lit 473,af)::(nat_lit 475,tO)::(nat_lit 476,af)::(nat_lit 478,tR)::(nat_lit 479,vJ)::(nat_lit 480,af)::(nat_lit 483,wR)::(nat_lit 484,w6)::(nat_lit 485,af)::r
noncomputable def Yt(r:List (Addr×Obj)):List (Addr×Obj):=(nat_lit 487,tN)::(nat_lit 488,af)::(nat_lit 490,rj)::(nat_lit 491,s_)::(nat_lit 492,af)::(nat_lit 494,wA)::(nat_lit 495,af)::(nat_lit 497,vY)::(nat_lit 498,sO)::(nat_lit 499,af)::(nat_lit 501,uG)::(nat_lit 502,af)::r
noncomputable def Z3(r:List (Addr×Obj)):List (Addr×Obj):=(nat_lit 504,uH)::(nat_lit 505,tG)::(nat_lit 506,af)::(nat_lit 508,tZ)::(nat_lit 509,af)::(nat_lit 511,uW)::(nat_lit 512,wc)::(nat_lit 513,af)::(nat_lit 515,vd)::(nat_lit 516,af)::(nat_lit 518,uV)::(nat_lit 519,wC)::r
noncomputable def Zc(r:List (Addr×Obj)):List (Addr×Obj):=(nat_lit 520,af)::(nat_lit 522,ue)::(nat_lit 523,af)::(nat_lit 525,uc)::(nat_lit 526,uQ)::(nat_lit 527,af)::(nat_lit 529,tJ)::(nat_lit 530,af)::(nat_lit 532,wG)::(nat_lit 533,uC)::(nat_lit 534,af)::(nat_lit 536,sX)::r
noncomputable def YV(r:List (Addr×Obj)):List (Addr×Obj):=(nat_lit 537,af)::(nat_lit 539,rZ)::(nat_lit 540,uo)::(nat_lit 541,af)::(nat_lit 543,sL)::(nat_lit 544,af)::(nat_lit 546,rM)::(nat_lit 547,wF)::(nat_lit 548,af)::(nat_lit 550,wN)::(nat_lit 551,af)::(nat_lit 553,vF)::r
noncomputable def Zo(r:List (Addr×Obj)):List (Addr×Obj):=(nat_lit 554,tI)::(nat_lit 555,af)::(nat_lit 557,rR)::(nat_lit 558,af)::(nat_lit 560,r_)::(nat_lit 561,wI)::(nat_lit 562,af)::(nat_lit 564,rQ)::(nat_lit 565,af)::(nat_lit 567,sV)::(nat_lit 568,wD)::(nat_lit 569,af)::r
noncomputable def YU(r:List (Addr×Obj)):List (Addr×Obj):=(nat_lit 571,sF)::(nat_lit 572,af)::(nat_lit 574,rO)::(nat_lit 575,rY)::(nat_lit 576,af)::(nat_lit 578,wy)::(nat_lit 579,af)::(nat_lit 581,tW)::(nat_lit 582,wx)::(nat_lit 583,af)::(nat_lit 585,vn)::(nat_lit 586,af)::r
noncomputable def Zs(r:List (Addr×Obj)):List (Addr×Obj):=(nat_lit 588,v_)::(nat_lit 589,wY)::(nat_lit 590,af)::(nat_lit 592,tm)::(nat_lit 593,af)::(nat_lit 595,uL)::(nat_lit 596,tu)::(nat_lit 597,af)::(nat_lit 599,vR)::(nat_lit 600,af)::(nat_lit 602,vI)::(nat_lit 603,vo)::r
noncomputable def Ym(r:List (Addr×Obj)):List (Addr×Obj):=(nat_lit 604,af)::(nat_lit 606,wq)::(nat_lit 607,af)::(nat_lit 609,sR)::(nat_lit 610,vj)::(nat_lit 611,af)::(nat_lit 613,uX)::(nat_lit 614,af)::(nat_lit 616,tY)::(nat_lit 617,uT)::(nat_lit 618,af)::(nat_lit 620,wM)::r
noncomputable def YH(r:List (Addr×Obj)):List (Addr×Obj):=(nat_lit 621,af)::(nat_lit 623,rP)::(nat_lit 624,vM)::(nat_lit 625,af)::(nat_lit 628,sg)::(nat_lit 629,vZ)::(nat_lit 630,af)::(nat_lit 632,rE)::(nat_lit 633,af)::(nat_lit 635,tF)::(nat_lit 636,uF)::(nat_lit 637,af)::r
noncomputable def Ze(r:List (Addr×Obj)):List (Addr×Obj):=(nat_lit 640,vN)::(nat_lit 641,uI)::(nat_lit 642,af)::(nat_lit 644,wu)::(nat_lit 645,af)::(nat_lit 647,vW)::(nat_lit 648,vm)::(nat_lit 649,af)::(nat_lit 651,uN)::(nat_lit 652,af)::(nat_lit 654,tS)::(nat_lit 655,vx)::r
noncomputable def afg(P:Params):List (Addr×Obj):=(ack P (adt P (aaA P (ac5 P (acR P (aa6 P (abg P (abV P (ac8 P (ab8 P (aao P (ZF P (YS (ZN P (Y7 (Za (XC (Xb (Xy P (ZV (Z5 (ZO (Z6 (Yt (Z3 (Zc (YV (Zo (YU (Zs (Ym (YH (Ze [])))))))))))))))))))))))))))))))))
noncomputable def ZhK(P:Params):Frag:=(nat_lit 2,PySem.W.boot_o_2 P)::(nat_lit 3,Jd P)::(nat_lit 15,af)::(nat_lit 17,J5)::(nat_lit 18,af)::(nat_lit 20,HV)::(nat_lit 21,IZ)::(nat_lit 22,Hz)::(nat_lit 29,af)::(nat_lit 31,JH)::(nat_lit 32,af)::(nat_lit 34,JF)::(nat_lit 35,KC)::(nat_lit 36,af)::(nat_lit 37,Kx P)::(nat_lit 38,CA)::(nat_lit 39,Lf)::(nat_lit 42,bw)::(nat_lit 49,af)::(nat_lit 51,I_)::(nat_lit 52,af)::(nat_lit 54,Ji)::(nat_lit 55,Ia)::(nat_lit 56,af)::(nat_lit 57,HI P)::(nat_lit 58,II)::(nat_lit 61,bw)::(nat_lit 68,af)::(nat_lit 70,Kc)::(nat_lit 71,af)::(nat_lit 73,Ll)::(nat_lit 74,IY)::(nat_lit 75,af)::(nat_lit 76,JL P)::(nat_lit 77,K6)::(nat_lit 80,bw)::(nat_lit 87,af)::(nat_lit 89,KP)::(nat_lit 90,af)::(nat_lit 92,Hv)::(nat_lit 93,Iy)::(nat_lit 94,af)::(nat_lit 95,Ld P)::(nat_lit 96,IP)::(nat_lit 99,bw)::(nat_lit 106,af)::(nat_lit 108,A2)::(nat_lit 109,af)::(nat_lit 111,Bz)::(nat_lit 112,AS)::(nat_lit 113,af)::(nat_lit 114,A7 P)::(nat_lit 115,Bf)::(nat_lit 118,bw)::(nat_lit 125,af)::(nat_lit 127,A3)::(nat_lit 128,af)::(nat_lit 130,BQ)::(nat_lit 131,BG)::(nat_lit 132,af)::(nat_lit 133,BD P)::(nat_lit 134,CJ)::(nat_lit 137,bw)::(nat_lit 144,af)::(nat_lit 146,Bg)::(nat_lit 147,af)::(nat_lit 149,CO)::(nat_lit 150,Be)::(nat_lit 151,af)::(nat_lit 152,CH P)::(nat_lit 153,B6)::(nat_lit 156,bw)::(nat_lit 163,af)::(nat_lit 165,CC)::(nat_lit 166,af)::(nat_lit 168,Cp)::(nat_lit 169,Ce)::(nat_lit 170,af)::(nat_lit 171,CG P)::(nat_lit 172,B0)::(nat_lit 175,bw)::(nat_lit 182,af)::(nat_lit 184,Br)::(nat_lit 185,af)::(nat_lit 187,Cn)::(nat_lit 188,BI)::(nat_lit 189,af)::(nat_lit 190,Bt P)::(nat_lit 191,AK)::(nat_lit 194,bw)::(nat_lit 201,af)::(nat_lit 203,wa)::(nat_lit 204,af)::(nat_lit 206,rS)::(nat_lit 207,vf)::(nat_lit 208,af)::(nat_lit 209,tH P)::(nat_lit 210,vS)::(nat_lit 213,bw)::(nat_lit 220,af)::(nat_lit 222,wj)::(nat_lit 223,af)::(nat_lit 225,tQ)::(nat_lit 226,vp)::(nat_lit 227,af)::(nat_lit 228,uJ P)::(nat_lit 229,qY)::(nat_lit 232,bw)::(nat_lit 239,af)::(nat_lit 241,uY)::(nat_lit 242,af)::(nat_lit 244,tX)::(nat_lit 245,rK)::(nat_lit 246,af)::(nat_lit 247,vQ P)::(nat_lit 248,se)::(nat_lit 251,bw)::(nat_lit 258,af)::(nat_lit 260,sG)::(nat_lit 261,af)::(nat_lit 263,wm)::(nat_lit 264,wJ)::(nat_lit 265,af)::(nat_lit 266,uS P)::(nat_lit 267,wB)::(nat_lit 270,bw)::(nat_lit 277,af)::(nat_lit 279,vb)::(nat_lit 280,af)::(nat_lit 282,vw)::(nat_lit 283,tE)::(nat_lit 284,af)::(nat_lit 285,wO P)::(nat_lit 286,so)::(nat_lit 289,bw)::(nat_lit 296,af)::(nat_lit 298,vL)::(nat_lit 299,af)::(nat_lit 301,wK)::(nat_lit 302,wQ)::(nat_lit 303,af)::(nat_lit 304,tD P)::(nat_lit 305,vP)::(nat_lit 308,sY P)::(nat_lit 309,af)::(nat_lit 310,af)::(nat_lit 311,uO)::(nat_lit 312,ua)::(nat_lit 313,q_)::(nat_lit 314,af)::(nat_lit 315,vT)::(nat_lit 316,tM)::(nat_lit 317,af)::(nat_lit 318,sW)::(nat_lit 319,sd)::(nat_lit 320,rX)::(nat_lit 321,vy)::(nat_lit 322,sE)::(nat_lit 323,uU)::(nat_lit 324,rL)::(nat_lit 325,vc)::(nat_lit 327,af)::(nat_lit 328,rH P)::(nat_lit 329,af)::(nat_lit 331,r8)::(nat_lit 332,af)::(nat_lit 334,qZ)::(nat_lit 335,ve)::(nat_lit 336,af)::(nat_lit 339,sD)::(nat_lit 340,sQ)::(nat_lit 341,af)::(nat_lit 343,wH)::(nat_lit 344,af)::(nat_lit 346,sZ)::(nat_lit 347,tT)::(nat_lit 348,af)::(nat_lit 351,sI)::(nat_lit 352,uw)::(nat_lit 353,af)::(nat_lit 356,t_)::(nat_lit 357,vg)::(nat_lit 358,af)::(nat_lit 360,uq)::(nat_lit 361,af)::(nat_lit 363,vi)::(nat_lit 364,sA)::(nat_lit 365,af)::(nat_lit 367,rg)::(nat_lit 368,af)::(nat_lit 370,tw)::(nat_lit 371,vv)::(nat_lit 372,af)::(nat_lit 374,sP)::(nat_lit 375,af)::(nat_lit 377,vV)::(nat_lit 378,wX)::(nat_lit 379,af)::(nat_lit 381,sM)::(nat_lit 382,af)::(nat_lit 384,rT)::(nat_lit 385,wZ)::(nat_lit 386,af)::(nat_lit 388,rC)::(nat_lit 389,af)::(nat_lit 391,ub)::(nat_lit 392,uK)::(nat_lit 393,af)::(nat_lit 395,si)::(nat_lit 396,af)::(nat_lit 398,sf)::(nat_lit 399,sH)::(nat_lit 400,af)::(nat_lit 403,sj)::(nat_lit 404,uM)::(nat_lit 405,af)::(nat_lit 407,sN)::(nat_lit 408,vH)::(nat_lit 410,rJ)::(nat_lit 411,sk)::(nat_lit 412,af)::(nat_lit 414,wV)::(nat_lit 415,sr)::(nat_lit 417,tU)::(nat_lit 418,rN)::(nat_lit 419,tK P)::(nat_lit 420,ux)::(nat_lit 421,sS)::(nat_lit 422,uP)::(nat_lit 423,wg)::(nat_lit 424,uA)::(nat_lit 425,vO)::(nat_lit 426,uZ)::(nat_lit 427,rm)::(nat_lit 428,vX)::(nat_lit 429,wt)::(nat_lit 430,ur)::(nat_lit 431,af)::(nat_lit 433,uv)::(nat_lit 434,af)::(nat_lit 436,u_)::(nat_lit 437,sT)::(nat_lit 438,af)::(nat_lit 440,vh)::(nat_lit 441,af)::(nat_lit 443,uz)::(nat_lit 444,sJ)::(nat_lit 445,af)::(nat_lit 447,tP)::(nat_lit 448,af)::(nat_lit 450,vz)::(nat_lit 451,ug)::(nat_lit 452,af)::(nat_lit 454,vU)::(nat_lit 455,af)::(nat_lit 457,tV)::(nat_lit 458,rD)::(nat_lit 459,af)::(nat_lit 461,uR)::(nat_lit 462,af)::(nat_lit 464,vG)::(nat_lit 465,rF)::(nat_lit 466,af)::(nat_lit 468,sU)::(nat_lit 469,af)::(nat_lit 471,rV)::(nat_lit 472,wL)::(nat_lit 473,af)::(nat_lit 475,tO)::(nat_lit 476,af)::(nat_lit 478,tR)::(nat_lit 479,vJ)::(nat_lit 480,af)::(nat_lit 483,wR)::(nat_lit 484,w6)::(nat_lit 485,af)::(nat_lit 487,tN)::(nat_lit 488,af)::(nat_lit 490,rj)::(nat_lit 491,s_)::(nat_lit 492,af)::(nat_lit 494,wA)::(nat_lit 495,af)::(nat_lit 497,vY)::(nat_lit 498,sO)::(nat_lit 499,af)::(nat_lit 501,uG)::(nat_lit 502,af)::(nat_lit 504,uH)::(nat_lit 505,tG)::(nat_lit 506,af)::(nat_lit 508,tZ)::(nat_lit 509,af)::(nat_lit 511,uW)::(nat_lit 512,wc)::(nat_lit 513,af)::(nat_lit 515,vd)::(nat_lit 516,af)::(nat_lit 518,uV)::(nat_lit 519,wC)::(nat_lit 520,af)::(nat_lit 522,ue)::(nat_lit 523,af)::(nat_lit 525,uc)::(nat_lit 526,uQ)::(nat_lit 527,af)::(nat_lit 529,tJ)::(nat_lit 530,af)::(nat_lit 532,wG)::(nat_lit 533,uC)::(nat_lit 534,af)::(nat_lit 536,sX)::(nat_lit 537,af)::(nat_lit 539,rZ)::(nat_lit 540,uo)::(nat_lit 541,af)::(nat_lit 543,sL)::(nat_lit 544,af)::(nat_lit 546,rM)::(nat_lit 547,wF)::(nat_lit 548,af)::(nat_lit 550,wN)::(nat_lit 551,af)::(nat_lit 553,vF)::(nat_lit 554,tI)::(nat_lit 555,af)::(nat_lit 557,rR)::(nat_lit 558,af)::(nat_lit 560,r_)::(nat_lit 561,wI)::(nat_lit 562,af)::(nat_lit 564,rQ)::(nat_lit 565,af)::(nat_lit 567,sV)::(nat_lit 568,wD)::(nat_lit 569,af)::(nat_lit 571,sF)::(nat_lit 572,af)::(nat_lit 574,rO)::(nat_lit 575,rY)::(nat_lit 576,af)::(nat_lit 578,wy)::(nat_lit 579,af)::(nat_lit 581,tW)::(nat_lit 582,wx)::(nat_lit 583,af)::(nat_lit 585,vn)::(nat_lit 586,af)::(nat_lit 588,v_)::(nat_lit 589,wY)::(nat_lit 590,af)::(nat_lit 592,tm)::(nat_lit 593,af)::(nat_lit 595,uL)::(nat_lit 596,tu)::(nat_lit 597,af)::(nat_lit 599,vR)::(nat_lit 600,af)::(nat_lit 602,vI)::(nat_lit 603,vo)::(nat_lit 604,af)::(nat_lit 606,wq)::(nat_lit 607,af)::(nat_lit 609,sR)::(nat_lit 610,vj)::(nat_lit 611,af)::(nat_lit 613,uX)::(nat_lit 614,af)::(nat_lit 616,tY)::(nat_lit 617,uT)::(nat_lit 618,af)::(nat_lit 620,wM)::(nat_lit 621,af)::(nat_lit 623,rP)::(nat_lit 624,vM)::(nat_lit 625,af)::(nat_lit 628,sg)::(nat_lit 629,vZ)::(nat_lit 630,af)::(nat_lit 632,rE)::(nat_lit 633,af)::(nat_lit 635,tF)::(nat_lit 636,uF)::(nat_lit 637,af)::(nat_lit 640,vN)::(nat_lit 641,uI)::(nat_lit 642,af)::(nat_lit 644,wu)::(nat_lit 645,af)::(nat_lit 647,vW)::(nat_lit 648,vm)::(nat_lit 649,af)::(nat_lit 651,uN)::(nat_lit 652,af)::(nat_lit 654,tS)::(nat_lit 655,vx)::[]
noncomputable def ZhA:List Addr:=[nat_lit 2,nat_lit 3,nat_lit 15,nat_lit 17,nat_lit 18,nat_lit 20,nat_lit 21,nat_lit 22,nat_lit 29,nat_lit 31,nat_lit 32,nat_lit 34,nat_lit 35,nat_lit 36,nat_lit 37,nat_lit 38,nat_lit 39,nat_lit 42,nat_lit 49,nat_lit 51,nat_lit 52,nat_lit 54,nat_lit 55,nat_lit 56,nat_lit 57,nat_lit 58,nat_lit 61,nat_lit 68,nat_lit 70,nat_lit 71,nat_lit 73,nat_lit 74,nat_lit 75,nat_lit 76,nat_lit 77,nat_lit 80,nat_lit 87,nat_lit 89,nat_lit 90,nat_lit 92,nat_lit 93,nat_lit 94,nat_lit 95,nat_lit 96,nat_lit 99,nat_lit 106,nat_lit 108,nat_lit 109,nat_lit 111,nat_lit 112,nat_lit 113,nat_lit 114,nat_lit 115,nat_lit 118,nat_lit 125,nat_lit 127,nat_lit 128,nat_lit 130,nat_lit 131,nat_lit 132,nat_lit 133,nat_lit 134,nat_lit 137,nat_lit 144,nat_lit 146,nat_lit 147,nat_lit 149,nat_lit 150,nat_lit 151,nat_lit 152,nat_lit 153,nat_lit 156,nat_lit 163,nat_lit 165,nat_lit 166,nat_lit 168,nat_lit 169,nat_lit 170,nat_lit 171,nat_lit 172,nat_lit 175,nat_lit 182,nat_lit 184,nat_lit 185,nat_lit 187,nat_lit 188,nat_lit 189,nat_lit 190,nat_lit 191,nat_lit 194,nat_lit 201,nat_lit 203,nat_lit 204,nat_lit 206,nat_lit 207,nat_lit 208,nat_lit 209,nat_lit 210,nat_lit 213,nat_lit 220,nat_lit 222,nat_lit 223,nat_lit 225,nat_lit 226,nat_lit 227,nat_lit 228,nat_lit 229,nat_lit 232,nat_lit 239,nat_lit 241,nat_lit 242,nat_lit 244,nat_lit 245,nat_lit 246,nat_lit 247,nat_lit 248,nat_lit 251,nat_lit 258,nat_lit 260,nat_lit 261,nat_lit 263,nat_lit 264,nat_lit 265,nat_lit 266,nat_lit 267,nat_lit 270,nat_lit 277,nat_lit 279,nat_lit 280,nat_lit 282,nat_lit 283,nat_lit 284,nat_lit 285,nat_lit 286,nat_lit 289,nat_lit 296,nat_lit 298,nat_lit 299,nat_lit 301,nat_lit 302,nat_lit 303,nat_lit 304,nat_lit 305,nat_lit 308,nat_lit 309,nat_lit 310,nat_lit 311,nat_lit 312,nat_lit 313,nat_lit 314,nat_lit 315,nat_lit 316,nat_lit 317,nat_lit 318,nat_lit 319,nat_lit 320,nat_lit 321,nat_lit 322,nat_lit 323,nat_lit 324,nat_lit 325,nat_lit 327,nat_lit 328,nat_lit 329,nat_lit 331,nat_lit 332,nat_lit 334,nat_lit 335,nat_lit 336,nat_lit 339,nat_lit 340,nat_lit 341,nat_lit 343,nat_lit 344,nat_lit 346,nat_lit 347,nat_lit 348,nat_lit 351,nat_lit 352,nat_lit 353,nat_lit 356,nat_lit 357,nat_lit 358,nat_lit 360,nat_lit 361,nat_lit 363,nat_lit 364,nat_lit 365,nat_lit 367,nat_lit 368,nat_lit 370,nat_lit 371,nat_lit 372,nat_lit 374,nat_lit 375,nat_lit 377,nat_lit 378,nat_lit 379,nat_lit 381,nat_lit 382,nat_lit 384,nat_lit 385,nat_lit 386,nat_lit 388,nat_lit 389,nat_lit 391,nat_lit 392,nat_lit 393,nat_lit 395,nat_lit 396,nat_lit 398,nat_lit 399,nat_lit 400,nat_lit 403,nat_lit 404,nat_lit 405,nat_lit 407,nat_lit 408,nat_lit 410,nat_lit 411,nat_lit 412,nat_lit 414,nat_lit 415,nat_lit 417,nat_lit 418,nat_lit 419,nat_lit 420,nat_lit 421,nat_lit 422,nat_lit 423,nat_lit 424,nat_lit 425,nat_lit 426,nat_lit 427,nat_lit 428,nat_lit 429,nat_lit 430,nat_lit 431,nat_lit 433,nat_lit 434,nat_lit 436,nat_lit 437,nat_lit 438,nat_lit 440,nat_lit 441,nat_lit 443,nat_lit 444,nat_lit 445,nat_lit 447,nat_lit 448,nat_lit 450,nat_lit 451,nat_lit 452,nat_lit 454,nat_lit 455,nat_lit 457,nat_lit 458,nat_lit 459,nat_lit 461,nat_lit 462,nat_lit 464,nat_lit 465,nat_lit 466,nat_lit 468,nat_lit 469,nat_lit 471,nat_lit 472,nat_lit 473,nat_lit 475,nat_lit 476,nat_lit 478,nat_lit 479,nat_lit 480,nat_lit 483,nat_lit 484,nat_lit 485,nat_lit 487,nat_lit 488,nat_lit 490,nat_lit 491,nat_lit 492,nat_lit 494,nat_lit 495,nat_lit 497,nat_lit 498,nat_lit 499,nat_lit 501,nat_lit 502,nat_lit 504,nat_lit 505,nat_lit 506,nat_lit 508,nat_lit 509,nat_lit 511,nat_lit 512,nat_lit 513,nat_lit 515,nat_lit 516,nat_lit 518,nat_lit 519,nat_lit 520,nat_lit 522,nat_lit 523,nat_lit 525,nat_lit 526,nat_lit 527,nat_lit 529,nat_lit 530,nat_lit 532,nat_lit 533,nat_lit 534,nat_lit 536,nat_lit 537,nat_lit 539,nat_lit 540,nat_lit 541,nat_lit 543,nat_lit 544,nat_lit 546,nat_lit 547,nat_lit 548,nat_lit 550,nat_lit 551,nat_lit 553,nat_lit 554,nat_lit 555,nat_lit 557,nat_lit 558,nat_lit 560,nat_lit 561,nat_lit 562,nat_lit 564,nat_lit 565,nat_lit 567,nat_lit 568,nat_lit 569,nat_lit 571,nat_lit 572,nat_lit 574,nat_lit 575,nat_lit 576,nat_lit 578,nat_lit 579,nat_lit 581,nat_lit 582,nat_lit 583,nat_lit 585,nat_lit 586,nat_lit 588,nat_lit 589,nat_lit 590,nat_lit 592,nat_lit 593,nat_lit 595,nat_lit 596,nat_lit 597,nat_lit 599,nat_lit 600,nat_lit 602,nat_lit 603,nat_lit 604,nat_lit 606,nat_lit 607,nat_lit 609,nat_lit 610,nat_lit 611,nat_lit 613,nat_lit 614,nat_lit 616,nat_lit 617,nat_lit 618,nat_lit 620,nat_lit 621,nat_lit 623,nat_lit 624,nat_lit 625,nat_lit 628,nat_lit 629,nat_lit 630,nat_lit 632,nat_lit 633,nat_lit 635,nat_lit 636,nat_lit 637,nat_lit 640,nat_lit 641,nat_lit 642,nat_lit 644,nat_lit 645,nat_lit 647,nat_lit 648,nat_lit 649,nat_lit 651,nat_lit 652,nat_lit 654,nat_lit 655]
noncomputable def hX(s:Shared):Bool:=xlAt hq [] s&&recOk [] s
noncomputable def ZW:List Addr:=[nat_lit 406,nat_lit 413]
noncomputable abbrev hH:Hook:=kmHook ZhK ZhA (λ_=>by kernel_rfl) ZW
noncomputable def Zqs:HD.iV ((Bool×Nat×Option Value)):=λw=>(λos=>((boot_heap w.params).isNs mainGlobals&&(Array.mk []:Array GenState).size==0,(boot_heap w.params).objs.size,(boot_heap w.params).nsMap mainGlobals "__annotations__"),λos=>(true,(nat_lit 11),(some (.ref 6))))
theorem YF:HD.sz (nat_lit 11) (some (.ref 6))=Zqs:=by kernel_rfl
name_quick WD for Zqs by YF
theorem Zis(w:World):(Fast.WD w).1=(Fast.WD w).2:=by kernel_rfl
theorem Zhs:HD.Ok (HD.sz (nat_lit 11) (some (.ref 6))):=HD.iW Fast.WD_eq Zis
noncomputable def acx:HD.iV (Bool):=λw=>(λos=>(staticsOk (importedModules pw.main.body) (boot_heap w.params) (Sb w.params)&&namesBound pw (Sb w.params)&&gensDone (Vf w os)&&laidKept (boot_heap w.params) (Sb w.params)),λos=>true)
theorem Tr:HD.la pw Sb Z9 YG=acx:=by kernel_rfl
name_quick OU for acx by Tr
theorem ae3(w:World):(Fast.OU w).1=(Fast.OU w).2:=by kernel_rfl
theorem afa:HD.Ok (HD.la pw Sb Z9 YG):=HD.iW Fast.OU_eq ae3
noncomputable def abU(w:World):=((λos:OsState=>openSeen hq hl (importedModules pw.main.body) hX true (Vf w os)),(λ_:OsState=>openGood hq hl))
theorem UH:HD.lb pw hq hl hX Sb Z9 YG=abU:=by kernel_rfl
name_quick PJ for abU by UH
theorem adP(w:World):(Fast.PJ w).1=(Fast.PJ w).2:=by kernel_rfl
theorem aeI:HD.Ok (HD.lb pw hq hl hX Sb Z9 YG):=HD.iW Fast.PJ_eq adP
noncomputable def acg:HD.iV ((List (Option Obj)×List (Option Obj))):=λw=>(λos=>(ZhA.map (Vf w os).heap.get?,ZW.map (Vf w os).heap.get?),λos=>((afg w.params).map λp=>some p.2,ZW.map λ_=>some (tabObj #[])))
theorem Tw:HD.lc hH Sb Z9 YG=acg:=by kernel_rfl
name_quick Pr for acg by Tw
theorem adN(w:World):(Fast.Pr w).1=(Fast.Pr w).2:=by kernel_rfl
theorem adL:HD.Ok (HD.lc hH Sb Z9 YG):=HD.iW Fast.Pr_eq adN
theorem hleft:LeftO pw hq hl hX hH.obs hH.val 11688:=HD.left (by kernel_rfl) (by decide) (λs=>by kernel_rfl) Zhs abw (by decide+kernel) afa aeI adL
end K24
end
open PySem PySem.W PyProof.Rows
set_option maxRecDepth 100000 in
set_option maxHeartbeats 0 in
theorem PySem.Challenge.cw_keeper_k24_walked_holds : PySem.Challenge.rw_keeper_k24_walked.Holds := by
  w_on; o_law
  refine PySem.W.holds_open (q := K24.hq) (loose := K24.hl) (Xt := K24.hX) (XP := PySem.W.XL K24.hq []) (Yf := PySem.W.Hook.obs K24.hH) (Ya := PySem.W.Hook.val K24.hH) (YP := PySem.W.Hook.says K24.hH) (N := 11688) K24.hleft (PySem.W.Hook.of _) (PySem.W.Hook.keeps _) (fun s e => PySem.W.xl_of s (Bool.and_eq_true_iff.mp e).1) PySem.W.XL.keeps (by rfl) (by rfl) (by rfl) (fun s e => PySem.W.recFacts_of (Bool.and_eq_true_iff.mp e).2) (by rfl) (by assumption) (by decide +kernel) ⟨rfl, rfl, rfl, rfl, rfl, by decide +kernel⟩ ?hw ?hc
  case hw => w_witness2
  delta K24.hH
  k_fill
  refine' K24.walk (l := PySem.Challenge.rw_keeper_k24_walked) (c1 := ?qc1) (T1 := ?qT1) (c2 := ?qc2) (T2 := ?qT2) rfl rfl (fun w h Y => PySem.W.km_in_of Y) ?h2_1 ?h3_1 ?h4_1 ?h2_2 ?h3_2 ?h4_2 ?hne12 ?F
  case F =>
    intro w mg fa h KX G hmg
    have h1_1 : PySem.W.tabIn (L2.KOf KX) "raised" = some (?qc1, ?qT1) := by
      dsimp only [L2.KOf]
      exact rfl
    have h2_1 : PySem.W.codeHdIn (L2.KOf KX) ?qc1 ?qT1 = true := by
      dsimp only [L2.KOf]
      kernel_rfl
    have h1_2 : PySem.W.tabIn (L2.KOf KX) "put_in" = some (?qc2, ?qT2) := by
      dsimp only [L2.KOf]
      exact rfl
    have h2_2 : PySem.W.codeHdIn (L2.KOf KX) ?qc2 ?qT2 = true := by
      dsimp only [L2.KOf]
      kernel_rfl
    have T : ∃ t, K24.Txt (L2.KOf KX) mg t := by
      dsimp only [L2.KOf]
      refine' K24.txt_mk KX G ?a0 ?a1 ?a2 ?a3 ?a4 ?a5 ?a6 ?a7 ?a8 ?a9 ?a10 ?a11 ?a12 ?a13 ?a14 ?a15 ?a16 ?a17 ?a18 ?a19 ?a20 ?a21 ?a22 ?a23 ?a24 ?a25 ?a26 ?a27 ?a28 ?a29 ?a30 ?a31 ?a32 ?a33 ?a34 ?a35 ?a36 ?a37 ?a38 ?a39 ?a40 ?a41 ?a42 ?a43 ?a44 ?a45 ?a46 ?z_ValueError ?z_bool ?z_dict ?z_int ?z_isinstance ?z_len ?z_list ?z_max ?z_min ?z_range ?z_tuple ?z_zip ?g_MOST_KNOTS ?g_MOST_DEEP ?g_MOST_VARIABLE ?g_KIDS_DUE ?lk_KIDS_DUE ?sy_KIDS_DUE ?ks_KIDS_DUE ?rf_KIDS_DUE ?u0_KIDS_DUE ?v0_KIDS_DUE ?u1_KIDS_DUE ?v1_KIDS_DUE ?u2_KIDS_DUE ?v2_KIDS_DUE ?u3_KIDS_DUE ?v3_KIDS_DUE ?u4_KIDS_DUE ?v4_KIDS_DUE ?u5_KIDS_DUE ?v5_KIDS_DUE ?u6_KIDS_DUE ?v6_KIDS_DUE ?u7_KIDS_DUE ?v7_KIDS_DUE ?u8_KIDS_DUE ?v8_KIDS_DUE ?u9_KIDS_DUE ?v9_KIDS_DUE ?u10_KIDS_DUE ?v10_KIDS_DUE ?u11_KIDS_DUE ?v11_KIDS_DUE ?u12_KIDS_DUE ?v12_KIDS_DUE ?u13_KIDS_DUE ?v13_KIDS_DUE ?u14_KIDS_DUE ?v14_KIDS_DUE ?u15_KIDS_DUE ?v15_KIDS_DUE ?u16_KIDS_DUE ?v16_KIDS_DUE ?u17_KIDS_DUE ?v17_KIDS_DUE ?g_BINDER_OVER ?lk_BINDER_OVER ?sy_BINDER_OVER ?vs_BINDER_OVER ?g_RULES ?lk_RULES ?sy_RULES ?ks_RULES ?rf_RULES ?u0_RULES ?v0_RULES ?u0_0_RULES ?v0_0_RULES ?u1_RULES ?v1_RULES ?u1_0_RULES ?v1_0_RULES ?u1_1_RULES ?v1_1_RULES ?u2_RULES ?v2_RULES ?u2_0_RULES ?v2_0_RULES ?u3_RULES ?v3_RULES ?u3_0_RULES ?v3_0_RULES ?u4_RULES ?v4_RULES ?u4_0_RULES ?v4_0_RULES ?g_KeeperError ?g_Great ?g_NoPlace ?g_NoStep ?g_Dry ?g_NoVariable ?g_NoName ?g_NotAll ?g_NotSome ?g_NotSame ?g_Unlike ?g_NoText ?g_NoWord ?g_TwiceTold ?g_NotClosed ?x_e0 ?x_e1 ?x_e2 ?x_e3 ?x_x0 ?x_c01 ?x_c02 ?x_c03 ?x_c04 ?x_c05 ?x_c06 ?x_s0 ?x_v0 ?x_k0_0 ?x_k0_1 ?x_k0_2 ?x_k0_3 ?x_a0 ?x_c11 ?x_c12 ?x_c13 ?x_c14 ?x_c15 ?x_c16 ?x_s1 ?x_v1 ?x_k1_0 ?x_k1_1 ?x_k1_2 ?x_k1_3 ?x_a1 ?x_c21 ?x_c22 ?x_c23 ?x_c24 ?x_c25 ?x_c26 ?x_s2 ?x_v2 ?x_k2_0 ?x_k2_1 ?x_k2_2 ?x_k2_3 ?x_a2
      (case a0 => apply L3.dfi; iterate 4 k_is)
      (case a1 => apply L3.dfi; iterate 4 k_is)
      (case a2 => apply L3.dfi; iterate 4 k_is)
      (case a3 => apply L3.dfi; iterate 4 k_is)
      (case a4 => apply L3.dfi; iterate 4 k_is)
      (case a5 => apply L3.dfi; iterate 4 k_is)
      (case a6 => apply L3.dfi; iterate 4 k_is)
      (case a7 => apply L3.dfi; iterate 4 k_is)
      (case a8 => apply L3.dfi; iterate 4 k_is)
      (case a9 => apply L3.dfi; iterate 4 k_is)
      (case a10 => apply L3.dfi; iterate 4 k_is)
      (case a11 => apply L3.dfi; iterate 4 k_is)
      (case a12 => apply L3.dfi; iterate 4 k_is)
      (case a13 => apply L3.dfi; iterate 4 k_is)
      (case a14 => apply L3.dfi; iterate 4 k_is)
      (case a15 => apply L3.dfi; iterate 4 k_is)
      (case a16 => apply L3.dfi; iterate 4 k_is)
      (case a17 => apply L3.dfi; iterate 4 k_is)
      (case a18 => apply L3.dfi; iterate 4 k_is)
      (case a19 => apply L3.dfi; iterate 4 k_is)
      (case a20 => apply L3.dfi; iterate 4 k_is)
      (case a21 => apply L3.dfi; iterate 4 k_is)
      (case a22 => apply L3.dfi; iterate 4 k_is)
      (case a23 => apply L3.dfi; iterate 4 k_is)
      (case a24 => apply L3.dfi; iterate 4 k_is)
      (case a25 => apply L3.dfi; iterate 4 k_is)
      (case a26 => apply L3.dfi; iterate 4 k_is)
      (case a27 => apply L3.dfi; iterate 4 k_is)
      (case a28 => apply L3.dfi; iterate 4 k_is)
      (case a29 => apply L3.dfi; iterate 4 k_is)
      (case a30 => apply L3.dfi; iterate 4 k_is)
      (case a31 => apply L3.dfi; iterate 4 k_is)
      (case a32 => apply L3.dfi; iterate 4 k_is)
      (case a33 => apply L3.dfi; iterate 4 k_is)
      (case a34 => apply L3.dfi; iterate 4 k_is)
      (case a35 => apply L3.dfi; iterate 4 k_is)
      (case a36 => apply L3.dfi; iterate 4 k_is)
      (case a37 => apply L3.dfi; iterate 4 k_is)
      (case a38 => apply L3.dfi; iterate 4 k_is)
      (case a39 => apply L3.dfi; iterate 4 k_is)
      (case a40 => apply L3.dfi; iterate 4 k_is)
      (case a41 => apply L3.dfi; iterate 4 k_is)
      (case a42 => apply L3.dfi; iterate 4 k_is)
      (case a43 => apply L3.dfi; iterate 4 k_is)
      (case a44 => apply L3.dfi; iterate 4 k_is)
      (case a45 => apply L3.dfi; iterate 4 k_is)
      (case a46 => apply L3.dfi; iterate 4 k_is)
      (case z_ValueError => k_is)
      (case z_bool => k_is)
      (case z_dict => k_is)
      (case z_int => k_is)
      (case z_isinstance => k_is)
      (case z_len => k_is)
      (case z_list => k_is)
      (case z_max => k_is)
      (case z_min => k_is)
      (case z_range => k_is)
      (case z_tuple => k_is)
      (case z_zip => k_is)
      (case g_MOST_KNOTS => k_is)
      (case g_MOST_DEEP => k_is)
      (case g_MOST_VARIABLE => k_is)
      (case g_KIDS_DUE => k_is)
      (case lk_KIDS_DUE => k_is)
      (case sy_KIDS_DUE => decide +kernel)
      (case ks_KIDS_DUE => kernel_rfl)
      (case rf_KIDS_DUE => (dsimp only [HD.e]; rfl))
      (case u0_KIDS_DUE => k_is)
      (case v0_KIDS_DUE => decide +kernel)
      (case u1_KIDS_DUE => k_is)
      (case v1_KIDS_DUE => decide +kernel)
      (case u2_KIDS_DUE => k_is)
      (case v2_KIDS_DUE => decide +kernel)
      (case u3_KIDS_DUE => k_is)
      (case v3_KIDS_DUE => decide +kernel)
      (case u4_KIDS_DUE => k_is)
      (case v4_KIDS_DUE => decide +kernel)
      (case u5_KIDS_DUE => k_is)
      (case v5_KIDS_DUE => decide +kernel)
      (case u6_KIDS_DUE => k_is)
      (case v6_KIDS_DUE => decide +kernel)
      (case u7_KIDS_DUE => k_is)
      (case v7_KIDS_DUE => decide +kernel)
      (case u8_KIDS_DUE => k_is)
      (case v8_KIDS_DUE => decide +kernel)
      (case u9_KIDS_DUE => k_is)
      (case v9_KIDS_DUE => decide +kernel)
      (case u10_KIDS_DUE => k_is)
      (case v10_KIDS_DUE => decide +kernel)
      (case u11_KIDS_DUE => k_is)
      (case v11_KIDS_DUE => decide +kernel)
      (case u12_KIDS_DUE => k_is)
      (case v12_KIDS_DUE => decide +kernel)
      (case u13_KIDS_DUE => k_is)
      (case v13_KIDS_DUE => decide +kernel)
      (case u14_KIDS_DUE => k_is)
      (case v14_KIDS_DUE => decide +kernel)
      (case u15_KIDS_DUE => k_is)
      (case v15_KIDS_DUE => decide +kernel)
      (case u16_KIDS_DUE => k_is)
      (case v16_KIDS_DUE => decide +kernel)
      (case u17_KIDS_DUE => k_is)
      (case v17_KIDS_DUE => decide +kernel)
      (case g_BINDER_OVER => k_is)
      (case lk_BINDER_OVER => k_is)
      (case sy_BINDER_OVER => decide +kernel)
      (case vs_BINDER_OVER => kernel_rfl)
      (case g_RULES => k_is)
      (case lk_RULES => k_is)
      (case sy_RULES => decide +kernel)
      (case ks_RULES => kernel_rfl)
      (case rf_RULES => (dsimp only [HD.e]; rfl))
      (case u0_RULES => k_is)
      (case v0_RULES => rfl)
      (case u0_0_RULES => k_is)
      (case v0_0_RULES => decide +kernel)
      (case u1_RULES => k_is)
      (case v1_RULES => rfl)
      (case u1_0_RULES => k_is)
      (case v1_0_RULES => decide +kernel)
      (case u1_1_RULES => k_is)
      (case v1_1_RULES => decide +kernel)
      (case u2_RULES => k_is)
      (case v2_RULES => rfl)
      (case u2_0_RULES => k_is)
      (case v2_0_RULES => decide +kernel)
      (case u3_RULES => k_is)
      (case v3_RULES => rfl)
      (case u3_0_RULES => k_is)
      (case v3_0_RULES => decide +kernel)
      (case u4_RULES => k_is)
      (case v4_RULES => rfl)
      (case u4_0_RULES => k_is)
      (case v4_0_RULES => decide +kernel)
      (case g_KeeperError => k_is)
      (case g_Great => k_is)
      (case g_NoPlace => k_is)
      (case g_NoStep => k_is)
      (case g_Dry => k_is)
      (case g_NoVariable => k_is)
      (case g_NoName => k_is)
      (case g_NotAll => k_is)
      (case g_NotSome => k_is)
      (case g_NotSame => k_is)
      (case g_Unlike => k_is)
      (case g_NoText => k_is)
      (case g_NoWord => k_is)
      (case g_TwiceTold => k_is)
      (case g_NotClosed => k_is)
      (case x_e0 => kernel_rfl)
      (case x_e1 => kernel_rfl)
      (case x_e2 => kernel_rfl)
      (case x_e3 => kernel_rfl)
      (case x_x0 => k_is)
      (case x_c01 => k_is)
      (case x_c02 => k_is)
      (case x_c03 => k_is)
      (case x_c04 => k_is)
      (case x_c05 => k_is)
      (case x_c06 => kernel_rfl)
      (case x_s0 => k_is)
      (case x_v0 => kernel_rfl)
      (case x_k0_0 => kernel_rfl)
      (case x_k0_1 => kernel_rfl)
      (case x_k0_2 => kernel_rfl)
      (case x_k0_3 => kernel_rfl)
      (case x_a0 => kernel_rfl)
      (case x_c11 => k_is)
      (case x_c12 => k_is)
      (case x_c13 => k_is)
      (case x_c14 => k_is)
      (case x_c15 => k_is)
      (case x_c16 => kernel_rfl)
      (case x_s1 => k_is)
      (case x_v1 => kernel_rfl)
      (case x_k1_0 => kernel_rfl)
      (case x_k1_1 => kernel_rfl)
      (case x_k1_2 => kernel_rfl)
      (case x_k1_3 => kernel_rfl)
      (case x_a1 => kernel_rfl)
      (case x_c21 => k_is)
      (case x_c22 => k_is)
      (case x_c23 => k_is)
      (case x_c24 => k_is)
      (case x_c25 => k_is)
      (case x_c26 => kernel_rfl)
      (case x_s2 => k_is)
      (case x_v2 => kernel_rfl)
      (case x_k2_0 => kernel_rfl)
      (case x_k2_1 => kernel_rfl)
      (case x_k2_2 => kernel_rfl)
      (case x_k2_3 => kernel_rfl)
      (case x_a2 => kernel_rfl)
    obtain ⟨t, T⟩ := T
    exact K24.fin KX G h1_1 h2_1 h1_2 h2_2 T hmg
  case h2_1 => intro w; kernel_rfl
  case h3_1 => intro w; kernel_rfl
  case h4_1 => exact fun w h Y => PySem.W.km_tabs_of Y _ (by decide)
  case h2_2 => intro w; kernel_rfl
  case h3_2 => intro w; kernel_rfl
  case h4_2 => exact fun w h Y => PySem.W.km_tabs_of Y _ (by decide)
  case hne12 => decide
