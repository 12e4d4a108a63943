"""The small machine: its programs and its runs."""
