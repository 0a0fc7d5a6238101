"""The examples of README.md."""

from pathlib import Path

from tests.plain import Case

README = Path(__file__).resolve().parent.parent / "README.md"


class Readme(Case):
    def test_examples(self):
        text = README.read_text(encoding="utf-8").replace("```", "\n")
        self.assert_examples(text, text.count(">>> "))
