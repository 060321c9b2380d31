"""Trees of files: packages, labels, patterns, archives, comparison."""
