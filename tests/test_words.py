from helpers import ODD, Case
from samewriting.words import KEPT, is_name


class Words(Case):
    def test_kept_words(self):
        self.assertEqual(KEPT, ("call", "else", "end", "for", "if", "in", "on", "use", "with"))
        for word in KEPT:
            self.assertIs(is_name(word), False)

    def test_names(self):
        for name in ("a", "z", "kept", "abcdefgh", "ifs", "o"):
            self.assertIs(is_name(name), True)

    def test_no_names(self):
        self.takes_none_of(is_name, ("", "abcdefghi", "A", "aB", "a1", "a b", "a_", " a", "a\n", "\u00e4", "\u0430", b"a", ["a"]))
        self.takes_none_of(is_name, [value for value in ODD if value not in ("a", "set")])
        self.assertIs(is_name("set"), True)
