"""What was shown on the ways of a search, so that it is not searched for again."""

# What hangs on more than so many facts that are not the question's own is rarely there again.
MAX_GROUNDS = 10
# So many proofs are looked at for each fact, the last ones.
MAX_PROOFS = 100


class Shown:
    """Proofs by the facts on which they hang, and which facts are there."""

    def __init__(self, question):
        self._frame = question.frame
        self._known = len(question.facts)
        self._there = {}
        self._proofs = {}

    def tell(self, marks):
        """Facts with these marks are there, once more."""
        for mark in marks:
            self._there[mark] = self._there.get(mark, 0) + 1

    def forget(self, marks):
        """Facts with these marks are there once less."""
        for mark in marks:
            self._there[mark] -= 1

    def has(self, mark):
        """Whether a fact with this mark is there."""
        return self._there.get(mark, 0) > 0

    def keep(self, proof):
        """Keep a proof, if it is one that can be of use again."""
        marks = [need for need in proof.grounds if not isinstance(need, str) and need >= self._known]
        if len(proof.proofs) < 2 or len(marks) > MAX_GROUNDS:
            return
        for mark in marks:
            self._proofs.setdefault(mark, []).append(proof)

    def closing(self, mark, made):
        """A proof that hangs on the fact with this mark and on facts and names that are there, or None."""
        for proof in self._proofs.get(mark, [])[-MAX_PROOFS:]:
            if self._has_all(proof.grounds, made) and not any([word in made for word in proof.words]):
                return proof
        return None

    def _has_all(self, grounds, made):
        for need in grounds:
            if isinstance(need, str):
                if need != "" and need not in self._frame and need not in made:
                    return False
            elif not self.has(need):
                return False
        return True
